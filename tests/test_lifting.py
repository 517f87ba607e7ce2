"""[14] and [1] (d): who must go so that told books all go, against a plain search through rows."""

import itertools
import random
import unittest

from heapfriends.lifting import lift, must_go, shows_must, why_must
from helper import (
    BOOKS, SHOWN_ODD, all_ties, check_asking, drawn_heaps, is_let, left, moved, refused_place, variants,
)


def all_goers(heap, ties):
    """By a plain search: all sets of books that go in some row that's let."""
    found = {(heap, frozenset())}
    waiting = list(found)
    while waiting:
        here, gone = waiting.pop()
        for book in here:
            if is_let(here, ties, book):
                state = (moved(here, book), gone | {book})
                if state not in found:
                    found.add(state)
                    waiting.append(state)
    return {gone for _, gone in found}


def all_choices(heap):
    for many in range(len(heap) + 1):
        yield from itertools.combinations(heap, many)


def closed(heap, ties, books):
    """All that are come to from the books by friends that lie beneath."""
    found = set(books)
    for fan in heap:
        if fan in found:
            found |= {friend for one, friend in ties if one == fan and heap.index(fan) < heap.index(friend)}
    return found


def is_reason(heap, ties, books, thing):
    if type(thing) is not list or not thing or not all(type(book) is str and book in heap for book in thing):
        return False
    for fan, friend in zip(thing, thing[1:]):
        if (fan, friend) not in ties or heap.index(friend) < heap.index(fan):
            return False
    return thing[0] in books


class Told(unittest.TestCase):
    heap, ties = ("a", "b", "c", "d", "e"), (("a", "c"), ("b", "a"), ("c", "d"), ("e", "b"))

    def test_must_go(self):
        for books, told in (
            ([], []), (["a"], ["a", "c", "d"]), (["b"], ["b"]), (["c"], ["c", "d"]), (["d"], ["d"]), (["e"], ["e"]),
            (["e", "a"], ["a", "c", "d", "e"]), (["b", "c"], ["b", "c", "d"]),
        ):
            self.assertEqual(must_go(self.heap, self.ties, books), told)

    def test_lift(self):
        for books, told in (
            ([], []), (["a"], ["d", "c", "a"]), (["b"], ["b"]), (["a", "e"], ["e", "d", "c", "a"]),
            (["c", "b"], ["d", "c", "b"]),
        ):
            self.assertEqual(lift(self.heap, self.ties, books), told)

    def test_why_must(self):
        for books, book, told in (
            (["a"], "d", ["a", "c", "d"]), (["a"], "c", ["a", "c"]), (["a"], "b", None), (["a"], "e", None),
            ([], "a", None), (["b"], "b", ["b"]), (["e", "c"], "d", ["c", "d"]),
        ):
            self.assertEqual(why_must(self.heap, self.ties, books, book), told)

    def test_one_of_these_itself(self):
        for told in (why_must(self.heap, self.ties, ["a", "d"], "d"), why_must(self.heap, self.ties, ["d", "a"], "d")):
            self.assertIn(told, (["d"], ["a", "c", "d"]))


class AgainstPlainSearch(unittest.TestCase):
    def check_all_choices(self, heap, ties):
        goers = all_goers(heap, ties)
        for books in all_choices(heap):
            must = frozenset.intersection(*[gone for gone in goers if gone >= set(books)])
            self.assertEqual(must, closed(heap, ties, books))
            self.assertEqual(repr(must_go(heap, ties, list(books))), repr(sorted(must)))

    def test_all_ties_of_one_to_three_books(self):
        for heap in (("a",), ("b", "a"), ("a", "b", "c"), ("b", "c", "a")):
            for ties in all_ties(heap):
                self.check_all_choices(heap, ties)

    def test_four_and_five_books(self):
        for heap, ties in drawn_heaps(140, 60, least=4, most=4):
            self.check_all_choices(heap, ties)
        for heap, ties in drawn_heaps(141, 15, least=5, most=5):
            self.check_all_choices(heap, ties)


class AnyHeaps(unittest.TestCase):
    def drawn(self, seed, many, least=1, most=12):
        """Triples (heap, ties, books)."""
        draw = random.Random(seed)
        for heap, ties in drawn_heaps(seed, many, least, most):
            yield heap, ties, draw.sample(heap, min(len(heap), draw.choice((0, 1, 1, 2, 6, 12))))

    def test_must_go(self):
        for heap, ties, books in self.drawn(142, 300):
            if books:
                self.assertEqual(repr(must_go(heap, ties, books)), repr(sorted(closed(heap, ties, books))))

    def test_lift(self):
        for heap, ties, books in self.drawn(143, 300):
            told = lift(heap, ties, books)
            self.assertIs(type(told), list)
            self.assertEqual(sorted(told), sorted(closed(heap, ties, books)))
            self.assertEqual(told, sorted(told, key=heap.index, reverse=True))
            self.assertIsNone(refused_place(heap, ties, told))
            self.assertEqual(set(left(heap, told)[:len(told)]), set(told))

    def test_why_must(self):
        kinds = set()
        for heap, ties, books in self.drawn(144, 200):
            must = closed(heap, ties, books)
            for book in heap:
                told = why_must(heap, ties, books, book)
                kinds.add(None if told is None else min(len(told), 4))
                if book not in must:
                    self.assertIsNone(told)
                else:
                    self.assertTrue(is_reason(heap, ties, books, told))
                    self.assertEqual(told[-1], book)
                    self.assertIs(shows_must(heap, ties, books, told), True)
        self.assertEqual(kinds, {None, 1, 2, 3, 4})

    def test_of_no_books(self):
        for heap, ties in drawn_heaps(145, 30):
            for books in ([], ()):
                self.assertEqual(repr(must_go(heap, ties, books)), "[]")
                self.assertEqual(repr(lift(heap, ties, books)), "[]")
                for book in heap:
                    self.assertIsNone(why_must(heap, ties, books, book))
                    self.assertIs(shows_must(heap, ties, books, [book]), False)

    def test_of_all_books(self):
        for heap, ties in drawn_heaps(146, 30):
            self.assertEqual(must_go(heap, ties, heap), sorted(heap))
            self.assertEqual(lift(heap, ties, heap), list(heap[::-1]))

    def test_books_in_any_order(self):
        for heap, ties in drawn_heaps(147, 30, least=4):
            told = {(repr(must_go(heap, ties, kind(books))), repr(lift(heap, ties, kind(books))))
                    for books in itertools.permutations(heap[:4]) for kind in (list, tuple)}
            self.assertEqual(len(told), 1)

    def test_a_line_of_twelve(self):
        ties = tuple(zip(BOOKS, BOOKS[1:]))
        self.assertEqual(must_go(BOOKS, ties, BOOKS[:1]), list(BOOKS))
        self.assertEqual(lift(BOOKS, ties, BOOKS[:1]), list(BOOKS[::-1]))
        self.assertEqual(why_must(BOOKS, ties, BOOKS[:1], BOOKS[-1]), list(BOOKS))
        self.assertEqual(must_go(BOOKS[::-1], ties, BOOKS[:1]), [BOOKS[0]])


class ShowsMust(unittest.TestCase):
    heap, ties = ("a", "b", "c", "d"), (("a", "b"), ("a", "c"), ("b", "a"), ("b", "c"), ("c", "d"), ("d", "a"))

    def test_reasons(self):
        for thing in (["a"], ["c"], ["a", "b"], ["a", "c"], ["a", "b", "c", "d"], ["c", "d"], ["a", "c", "d"]):
            self.assertIs(shows_must(self.heap, self.ties, ["a", "c"], thing), True)

    def test_no_reasons(self):
        for thing in (
            [], ("a",), ("a", "b"), ["b"], ["b", "c"], ["d"], ["a", "d"], ["a", "b", "a"], ["a", "a"], ["c", "d", "a"],
            "a", "ac", ["ac"], [["a", "b"]], ["a", ["b"]], ["a", None], [None], ["zz"], ["a", "zz"], ["zz", "a"], [1],
            None, True, False, 0, 1, [["a"]], [("a", "b")], ["a", "b", "b"],
        ):
            self.assertIs(shows_must(self.heap, self.ties, ["a", "c"], thing), False, thing)

    def test_things_of_every_kind(self):
        for whole in (["a"], ["a", "b", "c", "d"], []):
            for thing in variants(whole):
                for books in ([], ["a"], ("b", "a"), list(self.heap)):
                    told = is_reason(self.heap, self.ties, books, thing)
                    self.assertIs(shows_must(self.heap, self.ties, books, thing), told)

    def test_all_short_lists(self):
        for heap, ties in drawn_heaps(148, 25, least=2, most=4):
            for books in all_choices(heap):
                for many in range(4):
                    for thing in itertools.product(heap, repeat=many):
                        told = is_reason(heap, ties, books, list(thing))
                        self.assertIs(shows_must(heap, ties, list(books), list(thing)), told)

    def test_a_friend_that_lies_above_is_none(self):
        self.assertIs(shows_must(("a", "b"), (("a", "b"), ("b", "a")), ["b"], ["b", "a"]), False)
        self.assertIs(shows_must(("a", "b"), (("a", "b"), ("b", "a")), ["a"], ["a", "b"]), True)
        self.assertIs(shows_must(("a", "b"), (("b", "a"),), ["a"], ["a", "b"]), False)

    def test_long_things(self):
        self.assertIs(shows_must(self.heap, self.ties, ["a"], ["a", "b"] * 20000), False)
        self.assertIs(shows_must(self.heap, self.ties, ["a"], ["a"] * 20000), False)


class Asking(unittest.TestCase):
    def test_asking(self):
        draw = random.Random(149)
        for heap, ties in drawn_heaps(149, 25):
            books = draw.sample(heap, draw.randint(0, len(heap)))
            named = {"heap": heap, "ties": ties, "books": books}
            check_asking(self, must_go, named)
            check_asking(self, lift, named)
            for book in heap[:3]:
                check_asking(self, why_must, {**named, "book": book})

    def test_shows_must(self):
        heap, ties = ShowsMust.heap, ShowsMust.ties
        for thing in [["a"], ["a", "b", "c"], ["a", "b", "c", "d"], ("a",)] + SHOWN_ODD:
            check_asking(self, shows_must, {"heap": heap, "ties": ties, "books": ["a", "d"], "thing": thing})


if __name__ == "__main__":
    unittest.main()
