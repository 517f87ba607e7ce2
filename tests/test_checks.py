"""[7]: whether a thing shows a row or a bar."""

import itertools
import random
import unittest

from heapfriends.between import between
from heapfriends.checks import shows_bar, shows_row
from heapfriends.errors import Unlike
from helper import (
    BOOKS, SHOWN_ODD, check_asking, drawn_heaps, drawn_pairs, drawn_row, is_ring, left, number_of, refused_place,
    variants,
)


def is_row_to(heap, other, ties, thing):
    if type(thing) is not list or not all(type(book) is str and book in heap for book in thing):
        return False
    return refused_place(heap, ties, thing) is None and left(heap, thing) == tuple(other)


def is_bar(heap, other, ties, thing):
    return is_ring(ties, thing) and number_of(other, thing) > number_of(heap, thing)


class ShowsRow(unittest.TestCase):
    heap, other, ties = ("c", "a", "b"), ("b", "a", "c"), (("a", "b"),)

    def test_rows(self):
        for thing in (["b", "a", "b"], ["b", "a", "b", "b"], ["b", "b", "a", "b"], ["c", "b", "a", "b"],
                      ["b", "c", "a", "b"] + ["b"] * 196):
            self.assertIs(shows_row(self.heap, self.other, self.ties, thing), True)

    def test_no_rows(self):
        for thing in (
            ["a", "b"], [], ("b", "a", "b"), ["b"], ["b", "a"], ["b", "a", "b", "c"], ["b", "a", "b", "d"],
            ["b", "a", ["b"]], ["b", "a", None], ["b", "a", "b", 1], [["b", "a", "b"]], "bab", ["bab"], None, True,
            False, 0, 3, ["d"], ["B", "a", "b"],
        ):
            self.assertIs(shows_row(self.heap, self.other, self.ties, thing), False, thing)

    def test_the_bare_row(self):
        self.assertIs(shows_row(("a", "b"), ("a", "b"), (), []), True)
        self.assertIs(shows_row(["a", "b"], ("a", "b"), (), []), True)
        self.assertIs(shows_row(("a", "b"), ("a", "b"), (), ()), False)
        self.assertIs(shows_row(("a", "b"), ("b", "a"), (), []), False)

    def test_leaving_other_is_not_enough(self):
        self.assertIs(shows_row(("a", "b", "c"), ("b", "a", "c"), (("b", "c"),), ["b"]), False)

    def test_being_let_is_not_enough(self):
        self.assertIs(shows_row(("a", "b", "c"), ("b", "a", "c"), (), ["c"]), False)

    def test_things_of_every_kind(self):
        for whole in (["b", "a", "b"], []):
            for thing in variants(whole):
                told = is_row_to(self.heap, self.other, self.ties, thing)
                self.assertIs(shows_row(self.heap, self.other, self.ties, thing), told)

    def test_all_rows_of_three_books(self):
        for other in itertools.permutations(self.heap):
            for many in range(5):
                for row in itertools.product("abc", repeat=many):
                    told = is_row_to(self.heap, other, self.ties, list(row))
                    self.assertIs(shows_row(self.heap, other, self.ties, list(row)), told)

    def test_rows_longer_than_need_be(self):
        draw = random.Random(50)
        for heap, ties in drawn_heaps(50, 80):
            row = drawn_row(draw, heap, ties, 200)
            other = left(heap, row)
            self.assertIs(shows_row(heap, other, ties, row), True)
            self.assertIs(shows_row(heap, other, ties, between(heap, other, ties)[1]), True)
            self.assertIs(shows_row(heap, other, ties, tuple(row)), False)
            for thing in (row[1:], row[:-1], row + row, row + ["zz"], row + [None]):
                self.assertIs(shows_row(heap, other, ties, thing), is_row_to(heap, other, ties, thing))

    def test_asking(self):
        for thing in [["b", "a", "b"], ["b", "b", "a", "b"]] + SHOWN_ODD:
            named = {"heap": self.heap, "other": self.other, "ties": self.ties, "thing": thing}
            check_asking(self, shows_row, named)


class ShowsBar(unittest.TestCase):
    heap, other = ("a", "b", "c"), ("c", "b", "a")
    ties = (("a", "b"), ("a", "c"), ("b", "a"), ("b", "c"), ("c", "a"))

    def test_bars_begun_anywhere(self):
        for thing in (["a", "b", "c"], ["b", "c", "a"], ["c", "a", "b"]):
            self.assertIs(shows_bar(self.heap, self.other, self.ties, thing), True)

    def test_no_bars(self):
        for thing in (
            ["a", "c"], ["a", "b"], ["c", "b", "a"], ("a", "b", "c"), ["a", "b", "c", "a"], ["a", "b", "c", "d"],
            ["a"], [], "abc", None, True, False, 0, ["a", "b", None], [["a", "b", "c"]], ["a", ["b"], "c"],
        ):
            self.assertIs(shows_bar(self.heap, self.other, self.ties, thing), False, thing)

    def test_a_number_that_is_no_greater(self):
        self.assertIs(shows_bar(self.other, self.heap, self.ties, ["a", "b", "c"]), False)
        self.assertIs(shows_bar(self.heap, self.heap, self.ties, ["a", "b", "c"]), False)

    def test_a_ring_of_other_ties(self):
        self.assertIs(shows_bar(self.heap, self.other, (("a", "b"), ("b", "c")), ["a", "b", "c"]), False)
        self.assertIs(shows_bar(self.heap, self.other, (), ["a", "b", "c"]), False)

    def test_things_of_every_kind(self):
        for whole in (["a", "b", "c"], ["a", "c"]):
            for thing in variants(whole):
                told = is_bar(self.heap, self.other, self.ties, thing)
                self.assertIs(shows_bar(self.heap, self.other, self.ties, thing), told)

    def test_all_choices_of_books(self):
        for heap, other, ties in drawn_pairs(51, 40, least=2, most=5):
            for many in range(2, len(heap) + 1):
                for choice in itertools.permutations(heap, many):
                    told = is_bar(heap, other, ties, list(choice))
                    self.assertIs(shows_bar(heap, other, ties, list(choice)), told)

    def test_asking(self):
        for thing in [["a", "b", "c"], ["b", "c", "a"], ["a", "c"]] + SHOWN_ODD:
            named = {"heap": self.heap, "other": self.other, "ties": self.ties, "thing": thing}
            check_asking(self, shows_bar, named)


class Both(unittest.TestCase):
    def test_what_between_tells(self):
        for heap, other, ties in drawn_pairs(52, 200):
            kind, thing = between(heap, other, ties)
            self.assertIs(shows_row(heap, other, ties, thing), kind == "row")
            self.assertIs(shows_bar(heap, other, ties, thing), kind == "ring")

    def test_unlike_heaps_are_refused_ahead_of_all(self):
        for heap, other in ((("a", "b"), ("a", "c")), (("a", "b"), ("a",)), (("a",), ("a", "b")), (BOOKS, BOOKS[1:])):
            for thing in SHOWN_ODD:
                for ask in (shows_row, shows_bar):
                    with self.assertRaises(Unlike):
                        ask(heap, other, (), thing)
                    with self.assertRaises(Unlike):
                        ask(list(heap), list(other), [], thing)


if __name__ == "__main__":
    unittest.main()
