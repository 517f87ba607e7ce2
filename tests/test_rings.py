"""[6]: rings of friends and knots."""

import itertools
import random
import unittest

from heapfriends.errors import TooMany
from heapfriends.rings import knots, ring_number, rings, shows_ring
from helper import (
    BOOKS, SHOWN_ODD, all_ties, check_asking, drawn_heap, drawn_heaps, is_let, is_ring, knots_by_trial,
    moved, number_of, rings_by_trial, round_ties, variants,
)

TIES = (("a", "b"), ("b", "a"), ("b", "c"), ("c", "a"), ("d", "a"))


def begun_anywhere(ring):
    return [ring[at:] + ring[:at] for at in range(len(ring))]


def ladder(books, back):
    """Each book's friends are all behind it, and the first is a friend of those at the places in back.

    Each ring goes back once, and between may step on any of the books or not: of a place k there are 2 ** (k - 1).
    """
    pairs = list(itertools.combinations(books, 2)) + [(books[place], books[0]) for place in back]
    return tuple(sorted(pairs))


class ShowsRing(unittest.TestCase):
    def test_rings(self):
        for thing in (["a", "b"], ["b", "a"], ["a", "b", "c"], ["b", "c", "a"], ["c", "a", "b"]):
            self.assertIs(shows_ring(TIES, thing), True)

    def test_no_rings(self):
        for thing in (
            [], ["a"], ("a", "b"), ["a", "c"], ["c", "b", "a"], ["a", "b", "a", "b"], ["a", "b", "a"], ["d", "a", "b"],
            ["a", "d"], ["a", "b", "z"], ["a", None], ["a", ["b"]], [("a", "b")], [["a", "b"]], "ab", None, 0,
            True, False, ["a", 1], ["a", "b", "c", "a"],
        ):
            self.assertIs(shows_ring(TIES, thing), False, thing)

    def test_begun_anywhere(self):
        for many in range(2, 13):
            ring = list(BOOKS[:many])
            for begun in begun_anywhere(ring):
                self.assertIs(shows_ring(round_ties(ring), begun), True)
                self.assertIs(shows_ring(round_ties(ring), tuple(begun)), False)
                self.assertIs(shows_ring(round_ties(ring), begun[::-1]), many == 2)
                self.assertIs(shows_ring(round_ties(ring)[1:], begun), False)
                self.assertIs(shows_ring(round_ties(ring)[:-1], begun), False)

    def test_things_of_every_kind(self):
        for whole in (["a", "b"], ["a", "b", "c"], ["b", "c", "d"], []):
            for thing in variants(whole):
                self.assertIs(shows_ring(TIES, thing), is_ring(TIES, thing))
                self.assertIs(shows_ring((), thing), False)

    def test_all_choices_of_books(self):
        for heap, ties in drawn_heaps(30, 30, least=2, most=5):
            for many in range(len(heap) + 1):
                for choice in itertools.product(heap, repeat=min(many, 4)):
                    self.assertIs(shows_ring(ties, list(choice)), is_ring(ties, list(choice)))

    def test_long_things(self):
        self.assertIs(shows_ring(TIES, ["a", "b"] * 50000), False)
        self.assertIs(shows_ring(TIES, [str(number) for number in range(50000)]), False)

    def test_asking(self):
        for thing in [["a", "b"], ["c", "a", "b"]] + SHOWN_ODD:
            check_asking(self, shows_ring, {"ties": TIES, "thing": thing})


class RingNumber(unittest.TestCase):
    def test_told(self):
        self.assertEqual(ring_number(("a", "b"), ["a", "b"]), 1)
        self.assertEqual(ring_number(("a", "b", "c"), ["a", "b", "c"]), 1)
        self.assertEqual(ring_number(("a", "b", "c"), ["c", "b", "a"]), 2)
        self.assertEqual(ring_number(("d", "b", "c", "a"), ["a", "c", "b"]), 2)

    def test_rings_of_two_to_twelve_books(self):
        draw = random.Random(31)
        for many in range(2, 13):
            for _ in range(8):
                heap = drawn_heap(draw, draw.randint(many, 12))
                ring = draw.sample(heap, many)
                for begun in begun_anywhere(ring):
                    self.assertEqual(repr(ring_number(heap, begun)), repr(number_of(heap, ring)))
                    self.assertEqual(ring_number(heap, tuple(begun)), number_of(heap, ring))

    def test_a_going_leaves_it_or_makes_it_one_less(self):
        lessened = set()
        for heap, ties in drawn_heaps(32, 200, least=2, most=6):
            found = rings_by_trial(ties)
            for book in heap:
                if is_let(heap, ties, book):
                    for ring in found:
                        less = ring_number(heap, ring) - ring_number(moved(heap, book), ring)
                        lessened.add(less)
        self.assertEqual(lessened, {0, 1})

    def test_asking(self):
        for many in (2, 3, 7, 12):
            check_asking(self, ring_number, {"heap": BOOKS, "ring": list(BOOKS[:many][::-1])})


class Rings(unittest.TestCase):
    def test_told(self):
        self.assertEqual(rings(TIES), [["a", "b"], ["a", "b", "c"]])
        self.assertEqual(rings((("b", "c"), ("c", "b"))), [["b", "c"]])

    def test_none(self):
        for ties in ((), (("a", "b"),), (("a", "b"), ("a", "c"), ("b", "c")), ladder(BOOKS, [])):
            self.assertEqual(rings(ties), [])

    def test_all_ties_of_three_books(self):
        for ties in all_ties(("a", "b", "c")):
            self.assertEqual(rings(ties), rings_by_trial(ties))

    def test_any_ties(self):
        for _, ties in drawn_heaps(33, 150, least=2, most=6):
            found = rings_by_trial(ties)
            if len(found) <= 300:
                self.assertEqual(rings(ties), found)
            else:
                self.check_too_many(ties)

    def check_too_many(self, ties):
        with self.assertRaises(TooMany) as held:
            rings(ties)
        self.assertEqual(repr(held.exception.many), "300")

    def test_as_many_as_are_told(self):
        for books in (BOOKS, BOOKS[::-1], BOOKS[3:] + BOOKS[:3]):
            for back, many in (([1], 1), ([11], 1024), ([9], 256), ([9, 6, 4, 2], 298), ([9, 6, 4, 2, 1], 299),
                               ([9, 6, 4, 3], 300), ([9, 6, 4, 3, 1], 301), ([9, 6, 4, 3, 2], 302)):
                ties = ladder(books, back)
                if many > 300:
                    self.check_too_many(ties)
                else:
                    found = rings(ties)
                    self.assertEqual(len(found), many)
                    self.assertEqual(found, sorted(found))
                    self.assertEqual(len({tuple(ring) for ring in found}), many)
                    self.assertTrue(all(is_ring(ties, ring) and ring[0] == min(ring) for ring in found))

    def test_each_a_friend_of_each_other_one(self):
        for many, told in ((2, 1), (3, 5), (4, 20), (5, 84)):
            self.assertEqual(len(rings(tuple(sorted(itertools.permutations(BOOKS[:many], 2))))), told)
        for many in (6, 7, 12):
            self.check_too_many(tuple(sorted(itertools.permutations(BOOKS[:many], 2))))

    def test_one_ring_of_twelve(self):
        ring = list(BOOKS)
        self.assertEqual(rings(round_ties(ring)), [ring])
        self.assertEqual(rings(round_ties(ring[::-1])), [ring[:1] + ring[:0:-1]])

    def test_asking(self):
        for _, ties in drawn_heaps(34, 25, most=5):
            check_asking(self, rings, {"ties": ties})
        check_asking(self, rings, {"ties": ladder(BOOKS, [9, 6, 4, 3])})
        check_asking(self, rings, {"ties": tuple(sorted(itertools.permutations(BOOKS, 2)))})


class Knots(unittest.TestCase):
    def test_told(self):
        self.assertEqual(knots(TIES), [["a", "b", "c"]])
        self.assertEqual(knots((("a", "d"), ("b", "c"), ("c", "b"), ("d", "a"), ("d", "b"))), [["a", "d"], ["b", "c"]])

    def test_none(self):
        for ties in ((), (("a", "b"),), (("a", "b"), ("b", "c"))):
            self.assertEqual(knots(ties), [])

    def test_one_of_twelve(self):
        self.assertEqual(knots(round_ties(list(BOOKS[::-1]))), [list(BOOKS)])
        self.assertEqual(knots(tuple(sorted(itertools.permutations(BOOKS, 2)))), [list(BOOKS)])

    def test_any_ties(self):
        for _, ties in drawn_heaps(35, 300):
            self.assertEqual(repr(knots(ties)), repr(knots_by_trial(ties)))

    def test_all_ties_of_three_books(self):
        for ties in all_ties(("a", "b", "c")):
            self.assertEqual(knots(ties), knots_by_trial(ties))

    def test_each_ring_lies_in_one(self):
        for _, ties in drawn_heaps(36, 60, least=2, most=5):
            found = knots(ties)
            for ring in rings(ties):
                self.assertEqual(len([knot for knot in found if set(ring) <= set(knot)]), 1)

    def test_asking(self):
        for _, ties in drawn_heaps(37, 40):
            check_asking(self, knots, {"ties": ties})


if __name__ == "__main__":
    unittest.main()
