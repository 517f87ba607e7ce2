"""[17] and [1] (g): the ties with which histories were let, against a plain look at each pair alone."""

import itertools
import random
import unittest

from heapfriends.between import leads
from heapfriends.errors import Unlike
from heapfriends.learned import one_more, ties_let, ties_of_all
from helper import (
    BOOKS, UNLIKE, all_ties, check_asking, check_unlike, drawn_barred, drawn_heap, drawn_heaps, drawn_led, drawn_pairs,
    drawn_row, led_to, refused_place,
)


def all_pairs(heap):
    return sorted(itertools.permutations(heap, 2))


def let_alone(heap, row):
    """All pairs with each of which, as the only tie, the row is let."""
    return tuple(pair for pair in all_pairs(heap) if refused_place(heap, (pair,), row) is None)


def put_to(ties, pair):
    return tuple(sorted(ties + (pair,)))


def drawn_histories(seed, many, least=1, most=12, longest=12, most_told=8):
    """Lists of pairs (heap, row) of the same books: half of them let with one choice of ties, half of any books."""
    draw = random.Random(seed)
    for heap, ties in drawn_heaps(seed, many, least, most):
        let, free = [], []
        for _ in range(draw.randint(1, most_told)):
            other = tuple(draw.sample(heap, len(heap)))
            let.append((other, drawn_row(draw, other, ties, draw.randint(0, longest))))
            free.append((other, [draw.choice(heap) for _ in range(draw.randint(0, longest))]))
        yield let
        yield free


class TiesLet(unittest.TestCase):
    def check(self, heap, row):
        told = ties_let(heap, row)
        self.assertEqual(repr(told), repr(let_alone(heap, row)))
        self.assertIsNone(refused_place(heap, told, row))
        for pair in all_pairs(heap):
            if pair not in told:
                self.assertIsNotNone(refused_place(heap, put_to(told, pair), row))
        return told

    def test_told(self):
        heap = ("a", "b", "c")
        self.assertEqual(ties_let(heap, ["b"]), (("a", "b"), ("a", "c"), ("b", "a"), ("c", "a"), ("c", "b")))
        self.assertEqual(ties_let(heap, ["a"]), (("b", "a"), ("b", "c"), ("c", "a"), ("c", "b")))
        self.assertEqual(ties_let(heap, ["c", "b", "a"]), tuple(all_pairs(heap)))
        self.assertEqual(ties_let(heap, ["a", "b", "c"] * 2), (("b", "a"), ("c", "a"), ("c", "b")))

    def test_the_bare_row(self):
        for heap, _ in drawn_heaps(178, 20):
            for row in ([], ()):
                self.assertEqual(repr(ties_let(heap, row)), repr(tuple(all_pairs(heap))))
        self.assertEqual(len(ties_let(BOOKS, [])), 132)

    def test_one_book(self):
        for row in ([], ["a"], ["a"] * 200):
            self.assertEqual(repr(ties_let(("a",), row)), "()")

    def test_all_short_rows_of_three_books(self):
        for length in range(5):
            for row in itertools.product("abc", repeat=length):
                self.check(("b", "a", "c"), list(row))

    def test_any_rows(self):
        draw = random.Random(179)
        for heap, ties in drawn_heaps(179, 60):
            self.check(heap, drawn_row(draw, heap, ties, draw.randint(0, 30)))
            self.check(heap, [draw.choice(heap) for _ in range(draw.randint(0, 8))])

    def test_just_the_ties_among_them_let_it(self):
        for heap in (("a", "b", "c"), ("b", "a")):
            for length in range(4):
                for row in itertools.product(heap, repeat=length):
                    told = set(ties_let(heap, row))
                    for ties in all_ties(heap):
                        self.assertEqual(refused_place(heap, ties, row) is None, set(ties) <= told)

    def test_rows_of_200_deeds(self):
        draw = random.Random(180)
        for heap, ties in drawn_heaps(180, 6, least=12):
            row = drawn_row(draw, heap, ties, 200)
            self.assertLessEqual(set(ties), set(self.check(heap, row)))

    def test_a_book_that_goes_twice_running(self):
        self.assertEqual(ties_let(("a", "b"), ["b", "b"]), (("a", "b"),))
        self.assertEqual(ties_let(("a", "b"), ["b"]), (("a", "b"), ("b", "a")))
        self.assertEqual(ties_let(("a", "b"), ["a"]), (("b", "a"),))


class TiesOfAll(unittest.TestCase):
    def check(self, histories):
        heap = histories[0][0]
        told = ties_of_all(histories)
        alone = [set(let_alone(other, row)) for other, row in histories]
        self.assertEqual(repr(told), repr(tuple(pair for pair in all_pairs(heap) if all(pair in let for let in alone))))
        for other, row in histories:
            self.assertIsNone(refused_place(other, told, row))
        return told

    def test_told(self):
        self.assertEqual(ties_of_all([(("a", "b"), ["a"]), (("b", "a"), ["b"])]), ())
        self.assertEqual(ties_of_all([(("a", "b"), ["a"]), (("a", "b"), ["b"])]), (("b", "a"),))
        self.assertEqual(ties_of_all([(("a", "b"), []), (("b", "a"), [])]), (("a", "b"), ("b", "a")))

    def test_of_one(self):
        for histories in drawn_histories(181, 40):
            self.assertEqual(repr(ties_of_all(histories[:1])), repr(ties_let(*histories[0])))

    def test_of_several(self):
        sizes = set()
        for histories in drawn_histories(182, 60):
            sizes.add(len(self.check(histories)))
        self.assertGreater(len(sizes), 10)

    def test_eight_of_200_deeds(self):
        draw = random.Random(183)
        heap = drawn_heap(draw, 12)
        ties = (("a", "b"), ("b", "c"), ("c", "a"), ("d", "e"))
        histories = []
        for _ in range(8):
            other = tuple(draw.sample(heap, 12))
            histories.append((other, drawn_row(draw, other, ties, 200)))
        self.assertLessEqual(set(ties), set(self.check(histories)))

    def test_with_no_other_pair_all_are_let(self):
        for histories in drawn_histories(184, 25, most=6):
            told = ties_of_all(histories)
            for pair in all_pairs(histories[0][0]):
                if pair not in told:
                    ties = put_to(told, pair)
                    self.assertTrue(any(refused_place(heap, ties, row) is not None for heap, row in histories))

    def test_unlike(self):
        for heap, other in UNLIKE:
            for histories in (
                [(heap, []), (other, [])], [(other, []), (heap, [])], [(heap, [])] * 7 + [(other, [])],
                [[list(heap), []], [list(other), []]], [(heap, [heap[0]]), (heap, []), (other, [other[0]])],
            ):
                with self.assertRaises(Unlike):
                    ties_of_all(histories)


class OneMore(unittest.TestCase):
    def test_told(self):
        heap, other = ("a", "b", "c"), ("c", "b", "a")
        self.assertEqual(one_more(heap, other, (("a", "b"), ("b", "c"))), [("a", "c"), ("b", "a"), ("c", "b")])
        self.assertEqual(one_more(other, heap, (("a", "b"), ("b", "c"))), [("a", "c"), ("b", "a"), ("c", "a"), ("c", "b")])
        self.assertEqual(one_more(("a",), ("a",), ()), [])
        self.assertEqual(one_more(("a", "b"), ("b", "a"), (("a", "b"), ("b", "a"))), [])

    def test_against_a_plain_search(self):
        for heap, other, ties in drawn_pairs(185, 40, most=4):
            rest = [pair for pair in all_pairs(heap) if pair not in ties]
            told = [pair for pair in rest if other in led_to(heap, put_to(ties, pair))]
            self.assertEqual(repr(one_more(heap, other, ties)), repr(told))

    def test_all_ties_of_three_books(self):
        heap = ("a", "b", "c")
        for other in itertools.permutations(heap):
            for ties in all_ties(heap):
                rest = [pair for pair in all_pairs(heap) if pair not in ties]
                told = [pair for pair in rest if other in led_to(heap, put_to(ties, pair))]
                self.assertEqual(repr(one_more(heap, other, ties)), repr(told))

    def test_against_leads(self):
        sizes = set()
        for heap, other, ties, _ in drawn_led(186, 30):
            rest = [pair for pair in all_pairs(heap) if pair not in ties]
            told = [pair for pair in rest if leads(heap, other, put_to(ties, pair))]
            sizes.add((len(told) > 0, len(told) < len(rest)))
            self.assertEqual(repr(one_more(heap, other, ties)), repr(told))
        self.assertLessEqual({(True, True), (True, False), (False, False)}, sizes)

    def test_none_where_it_does_not_lead_without(self):
        for heap, other, ties in drawn_barred(187, 20):
            for handed in (ties, [list(pair) for pair in ties]):
                self.assertEqual(repr(one_more(heap, other, handed)), "[]")

    def test_a_tie_handed_in_as_a_list_is_a_tie(self):
        self.assertEqual(one_more(["a", "b"], ["a", "b"], [["a", "b"]]), [("b", "a")])

    def test_twelve_books_without_ties(self):
        self.assertEqual(one_more(BOOKS, BOOKS[::-1], ()), all_pairs(BOOKS))

    def test_unlike(self):
        check_unlike(self, one_more)


class Asking(unittest.TestCase):
    def test_ties_let(self):
        draw = random.Random(188)
        for heap, ties in drawn_heaps(188, 25):
            check_asking(self, ties_let, {"heap": heap, "row": drawn_row(draw, heap, ties, draw.randint(0, 20))})

    def test_ties_of_all(self):
        for histories in drawn_histories(189, 15):
            check_asking(self, ties_of_all, {"histories": histories})
        check_asking(self, ties_of_all, {"histories": [(("a",), []), (("b",), [])]})

    def test_one_more(self):
        for heap, other, ties in drawn_pairs(190, 12, most=6):
            check_asking(self, one_more, {"heap": heap, "other": other, "ties": ties})
        for heap, other in UNLIKE[:3]:
            check_asking(self, one_more, {"heap": heap, "other": other, "ties": ()})


if __name__ == "__main__":
    unittest.main()
