"""[16] and [1] (f): rows done again and again, against the row done as often, one deed behind the other."""

import collections
import itertools
import random
import unittest

from heapfriends.errors import NoBook, Stopped
from heapfriends.repeats import again, gone, is_endless
from helper import (
    BOOKS, ODD, all_ties, check_asking, drawn_heaps, drawn_row, is_let, left, moved, outcome, refused_place,
)

MANY = 10 ** 12

# Behind b's going its friend a lies beneath it, so b isn't let again until a went.
HEAP, TIES = ("a", "b", "c"), (("b", "a"),)


def by_deeds(heap, ties, row, many):
    """The text of what is told or refused, deed by deed through all rounds."""
    number = 0
    for _ in range(many):
        for book in row:
            if not is_let(heap, ties, book):
                return "refused Stopped" + repr({"number": number})
            heap = moved(heap, book)
            number += 1
    return "told " + repr(heap)


def drawn_rows(seed, many, least=1, most=12, longest=12):
    """Triples (heap, ties, row): rows that are let, and rows of any books."""
    draw = random.Random(seed)
    for heap, ties in drawn_heaps(seed, many, least, most):
        yield heap, ties, drawn_row(draw, heap, ties, draw.randint(0, longest))
        yield heap, ties, [draw.choice(heap) for _ in range(draw.randint(0, longest))]


class Again(unittest.TestCase):
    def check_stopped(self, heap, ties, row, many, number):
        with self.assertRaises(Stopped) as held:
            again(heap, ties, row, many)
        self.assertEqual(repr(held.exception.number), repr(number))

    def test_told(self):
        self.assertEqual(again(HEAP, TIES, ["c", "b"], 1), ("b", "c", "a"))
        self.assertEqual(again(HEAP, TIES, ["b", "a"], 1), ("a", "b", "c"))
        self.assertEqual(again(HEAP, TIES, ["b", "a", "c"], 7), ("c", "a", "b"))
        self.check_stopped(HEAP, TIES, ["c", "b"], 2, 3)
        self.check_stopped(HEAP, TIES, ["c", "b"], MANY, 3)
        self.check_stopped(HEAP, TIES, ["b", "b", "a"], 1, 1)
        self.check_stopped(HEAP, TIES, ["b", "b", "a"], MANY, 1)

    def test_against_deeds(self):
        kinds = collections.Counter()
        for heap, ties, row in drawn_rows(166, 200):
            for many in (0, 1, 2, 3, 5):
                told = by_deeds(heap, ties, row, many)
                self.assertEqual(outcome(again, heap, ties, row, many), told)
                kinds[self.kind_of(told, row)] += 1
        self.assertEqual(set(kinds), {"told", 0, 1})
        self.assertGreater(min(kinds.values()), 20)

    def kind_of(self, told, row):
        """In which round it stopped."""
        if told.startswith("told"):
            return "told"
        return int("".join(sign for sign in told if sign.isdigit())) // len(row)

    def test_all_short_rows_of_three_books(self):
        heap = ("b", "a", "c")
        for ties in all_ties(heap):
            for length in range(4):
                for row in itertools.product(heap, repeat=length):
                    for many in (1, 2, 3):
                        told = by_deeds(heap, ties, row, many)
                        self.assertEqual(outcome(again, heap, ties, list(row), many), told)

    def test_no_round_is_the_heap_itself(self):
        for heap, ties, row in drawn_rows(167, 30):
            for handed in (heap, list(heap)):
                self.assertEqual(repr(again(handed, ties, row, 0)), repr(heap))

    def test_rounds_to_the_bound(self):
        ends = set()
        for heap, ties, row in drawn_rows(168, 150):
            told = by_deeds(heap, ties, row, 3)
            ends.add(told.split()[0])
            for many in (3, 4, 999, MANY - 1, MANY):
                self.assertEqual(outcome(again, heap, ties, row, many), told)
        self.assertEqual(ends, {"told", "refused"})

    def test_rows_of_200_deeds(self):
        draw = random.Random(169)
        for heap, ties in drawn_heaps(169, 25, least=12):
            row = drawn_row(draw, heap, ties, 200)
            for many in (1, 2, 3):
                self.assertEqual(outcome(again, heap, ties, row, many), by_deeds(heap, ties, row, many))
            self.assertEqual(outcome(again, heap, ties, row, MANY), by_deeds(heap, ties, row, 3))

    def test_the_last_deed_of_the_second_round(self):
        # In the first round b still lies above a.
        heap, row = ("b", "c", "d", "a"), ["c", "d"] * 99 + ["c", "a"]
        self.assertEqual(again(heap, (("a", "b"),), row, 1), left(heap, row))
        self.check_stopped(heap, (("a", "b"),), row, 2, 399)
        self.check_stopped(heap, (("a", "b"),), row, MANY, 399)
        self.assertEqual(again(heap, (("a", "c"),), row, MANY), left(heap, row))

    def test_the_bare_row(self):
        for heap, ties in drawn_heaps(170, 20):
            for row in ([], ()):
                for many in (0, 1, 2, MANY):
                    self.assertEqual(repr(again(list(heap), ties, row, many)), repr(heap))

    def test_leaves_the_same_each_time(self):
        for heap, ties, row in drawn_rows(171, 60):
            if refused_place(heap, ties, row * 2) is None:
                once = again(heap, ties, row, 1)
                self.assertEqual(again(once, ties, row, 1), once)
                self.assertEqual(again(heap, ties, row, MANY), once)


class AbsentBooks(unittest.TestCase):
    def check_absent(self, row, many, thing):
        with self.assertRaises(NoBook) as held:
            again(HEAP, TIES, row, many)
        self.assertIs(held.exception.book, thing)

    def test_of_however_many(self):
        for thing in ODD:
            if thing not in HEAP:
                for many in (0, 1, 2, MANY):
                    for row in ([thing], ["a", thing], ["c", thing, "b"], ("b", "a", "c", thing)):
                        self.check_absent(row, many, thing)

    def test_the_first_of_the_row(self):
        for many in (0, 1, 5):
            self.check_absent(["a", "zz", "z", "zz"], many, "zz")
            self.check_absent(["a", "z", "zz", None], many, "z")
            self.check_absent([None, "zz"], many, None)

    def test_ahead_of_stopped(self):
        for many in (0, 1, 2, MANY):
            self.check_absent(["b", "b", "b", "zz"], many, "zz")
            self.check_absent(["c", "b", "zz"], many, "zz")

    def test_nothing_is_there_of_another_heap(self):
        with self.assertRaises(NoBook):
            again(("a",), (), ["b"], 0)


class IsEndless(unittest.TestCase):
    def test_told(self):
        self.assertIs(is_endless(HEAP, TIES, ["b", "a"]), True)
        self.assertIs(is_endless(HEAP, TIES, ["c", "b"]), False)
        self.assertIs(is_endless(HEAP, TIES, ["b", "b", "a"]), False)
        self.assertIs(is_endless(HEAP, TIES, ["c", "a"]), True)

    def test_the_bare_row(self):
        for heap, ties in drawn_heaps(172, 20):
            for row in ([], ()):
                self.assertIs(is_endless(heap, ties, row), True)

    def test_against_five_rounds(self):
        kinds = set()
        for heap, ties, row in drawn_rows(173, 250):
            endless = refused_place(heap, ties, row * 5) is None
            kinds.add((endless, refused_place(heap, ties, row) is None))
            self.assertIs(is_endless(heap, ties, row), endless)
        self.assertEqual(kinds, {(True, True), (False, True), (False, False)})

    def test_all_short_rows_of_three_books(self):
        heap = ("b", "a", "c")
        for ties in all_ties(heap):
            for length in range(4):
                for row in itertools.product(heap, repeat=length):
                    self.assertIs(is_endless(heap, ties, row), refused_place(heap, ties, row * 4) is None)

    def test_rows_of_200_deeds(self):
        draw = random.Random(174)
        for heap, ties in drawn_heaps(174, 25, least=12):
            row = drawn_row(draw, heap, ties, 200)
            self.assertIs(is_endless(heap, ties, row), refused_place(heap, ties, row * 3) is None)


class Gone(unittest.TestCase):
    def test_told(self):
        row = ["b", "a", "b", "c"]
        for deeds, told in (
            (0, []), (1, [("b", 1)]), (2, [("a", 1), ("b", 1)]), (3, [("a", 1), ("b", 2)]),
            (4, [("a", 1), ("b", 2), ("c", 1)]), (5, [("a", 1), ("b", 3), ("c", 1)]),
            (12, [("a", 3), ("b", 6), ("c", 3)]),
        ):
            self.assertEqual(repr(gone(row, 3, deeds)), repr(told))

    def test_against_counting(self):
        draw = random.Random(175)
        for _ in range(150):
            row = [draw.choice(BOOKS) for _ in range(draw.randint(0, 9))]
            many = draw.randint(1, 5)
            for deeds in range(len(row) * many + 1):
                counted = collections.Counter((row * many)[:deeds])
                self.assertEqual(repr(gone(row, many, deeds)), repr(sorted(counted.items())))

    def test_no_deeds(self):
        for row in ([], (), ["a"], ["b", "a"]):
            for many in (1, 2, MANY):
                self.assertEqual(repr(gone(row, many, 0)), "[]")

    def test_rounds_to_the_bound(self):
        self.assertEqual(gone(["b", "a", "b"], MANY, 3 * MANY), [("a", MANY), ("b", 2 * MANY)])
        self.assertEqual(gone(["b", "a", "b"], MANY, 3 * MANY - 1), [("a", MANY), ("b", 2 * MANY - 1)])
        self.assertEqual(gone(["b", "a", "b"], MANY, 3 * MANY - 2), [("a", MANY - 1), ("b", 2 * MANY - 1)])
        self.assertEqual(gone(["b", "a", "b"], MANY, 2), [("a", 1), ("b", 1)])
        draw = random.Random(176)
        row = [draw.choice(BOOKS) for _ in range(200)]
        for rest in (0, 1, 77, 199):
            told = sorted((book, row.count(book) * (MANY - 1) + row[:rest].count(book)) for book in set(row))
            self.assertEqual(gone(row, MANY, 200 * (MANY - 1) + rest), told)

    def test_a_round_and_a_part_of_it(self):
        row = ["a"] * 199 + ["b"]
        self.assertEqual(gone(row, 2, 199), [("a", 199)])
        self.assertEqual(gone(row, 2, 200), [("a", 199), ("b", 1)])
        self.assertEqual(gone(row, 2, 399), [("a", 398), ("b", 1)])


class Asking(unittest.TestCase):
    def test_again_and_is_endless(self):
        for heap, ties, row in drawn_rows(177, 20):
            check_asking(self, is_endless, {"heap": heap, "ties": ties, "row": row})
            for many in (0, 1, 2, MANY):
                check_asking(self, again, {"heap": heap, "ties": ties, "row": row, "many": many})
            check_asking(self, again, {"heap": heap, "ties": ties, "row": row + ["zz"], "many": 3})

    def test_gone(self):
        for row in ([], ["a"], ["b", "a", "b", "c"]):
            for deeds in (0, len(row), 2 * len(row) + len(row) // 2, MANY * len(row)):
                check_asking(self, gone, {"row": row, "many": MANY, "deeds": deeds})


if __name__ == "__main__":
    unittest.main()
