"""[11] and [1] (c): which deeds can be gone back, against a plain search and against the rule of knots."""

import random
import unittest

from heapfriends.back import can_go_back, first_lost, way_back
from heapfriends.errors import Lost, MayNot, NoBook
from heapfriends.laying import done
from helper import (
    ODD, all_ties, check_asking, drawn_heaps, drawn_row, fewest_from, is_let, knots_by_trial, led_to, left, moved,
    outcome, refused_place,
)

# a may go and can't be gone back: its fan c lies beneath it, on the ring of all three.
HEAP, TIES = ("b", "a", "c"), (("a", "b"), ("b", "c"), ("c", "a"))


def goes_back(heap, ties, book):
    """The rule in brackets: each fan in a knot with the book lies above it."""
    mates = {mate for knot in knots_by_trial(ties) if book in knot for mate in knot}
    return all(heap.index(fan) < heap.index(book) for fan, friend in ties if friend == book and fan in mates)


def lost_place(heap, ties, row):
    for place, book in enumerate(row):
        if not goes_back(heap, ties, book):
            return place
        heap = moved(heap, book)
    return None


def kept_row(draw, heap, ties, many):
    """A ROW of so many deeds, each of which can be gone back; of fewer where none is left."""
    row = []
    for _ in range(many):
        free = [book for book in heap if is_let(heap, ties, book) and goes_back(heap, ties, book)]
        if not free:
            break
        row.append(draw.choice(free))
        heap = moved(heap, row[-1])
    return row


def drawn_rows(seed, many, least=1, most=12, longest=30):
    """Triples (heap, ties, row): rows that are let, of deeds of any kind or of such as can be gone back."""
    draw = random.Random(seed)
    for heap, ties in drawn_heaps(seed, many, least, most):
        yield heap, ties, drawn_row(draw, heap, ties, draw.randint(0, longest))
        kept = kept_row(draw, heap, ties, draw.randint(0, longest))
        yield heap, ties, kept
        yield heap, ties, kept + drawn_row(draw, left(heap, kept), ties, 5)


class CanGoBack(unittest.TestCase):
    def check_each_book(self, heap, ties):
        for book in heap:
            if is_let(heap, ties, book):
                back = heap in led_to(moved(heap, book), ties)
                self.assertEqual(goes_back(heap, ties, book), back)
                self.assertIs(can_go_back(heap, ties, book), back)

    def test_told(self):
        self.assertIs(can_go_back(HEAP, TIES, "a"), False)
        self.assertIs(can_go_back(("b", "c", "a"), TIES, "a"), True)
        self.assertIs(can_go_back(("a", "b"), (), "a"), True)
        self.assertIs(can_go_back(("a",), (), "a"), True)

    def test_a_fan_that_is_in_no_knot_with_it(self):
        self.assertIs(can_go_back(("b", "a", "c"), (("a", "b"), ("c", "a")), "a"), True)
        self.assertIs(can_go_back(("b", "a", "c"), (("b", "c"), ("c", "a"), ("c", "b")), "a"), True)

    def test_all_ties_of_one_to_three_books(self):
        for heap in (("a",), ("b", "a"), ("a", "b", "c"), ("b", "c", "a")):
            for ties in all_ties(heap):
                self.check_each_book(heap, ties)

    def test_four_and_five_books(self):
        for heap, ties in drawn_heaps(90, 150, least=4, most=5):
            self.check_each_book(heap, ties)

    def test_twelve_books(self):
        told = set()
        for heap, ties in drawn_heaps(91, 80, least=12):
            for book in heap:
                if is_let(heap, ties, book):
                    told.add(can_go_back(heap, ties, book))
                    self.assertIs(can_go_back(heap, ties, book), goes_back(heap, ties, book))
        self.assertEqual(told, {False, True})

    def test_refused_as_laid(self):
        for heap, ties in drawn_heaps(92, 60):
            for book in heap:
                if not is_let(heap, ties, book):
                    with self.assertRaises(MayNot) as held:
                        can_go_back(heap, ties, book)
                    self.assertEqual(held.exception.book, book)
        for thing in ODD:
            if thing not in HEAP:
                with self.assertRaises(NoBook) as held:
                    can_go_back(HEAP, TIES, thing)
                self.assertIs(held.exception.book, thing)


class FirstLost(unittest.TestCase):
    def test_told(self):
        for row, place in (
            ([], None), (["c"], None), (["c", "a"], None), (["a"], 0), (["a", "c"], 0), (["c", "b"], 1),
            (["c", "a", "b"], None), (["c", "a", "b", "a"], 3),
        ):
            self.assertEqual(repr(first_lost(HEAP, TIES, row)), repr(place))

    def test_the_bare_row(self):
        for row in ([], ()):
            self.assertIsNone(first_lost(HEAP, TIES, row))
            self.assertIsNone(first_lost(("a",), (), row))

    def test_against_a_plain_search(self):
        places = set()
        for heap, ties, row in drawn_rows(93, 60, most=5, longest=8):
            place, here = None, heap
            for at, book in enumerate(row):
                if here not in led_to(moved(here, book), ties):
                    place = at
                    break
                here = moved(here, book)
            places.add(place)
            self.assertEqual(repr(first_lost(heap, ties, row)), repr(place))
        self.assertTrue({None, 0, 1, 2} <= places)

    def test_rows_of_200_deeds(self):
        draw = random.Random(94)
        lost = []
        for heap, ties in drawn_heaps(94, 20, least=12):
            for row in (drawn_row(draw, heap, ties, 200), kept_row(draw, heap, ties, 200)):
                self.assertEqual(first_lost(heap, ties, row), lost_place(heap, ties, row))
                lost.append(lost_place(heap, ties, row))
        self.assertTrue(any(place is None for place in lost) and any(place is not None for place in lost))

    def test_the_last_of_200_deeds(self):
        # On a ring of two each goes in turn for ever; what is lost at last is a tie of the ring of three.
        ties = tuple(sorted(TIES + (("d", "e"), ("e", "d"))))
        row = ["e", "d"] * 99 + ["e", "a"]
        self.assertEqual(first_lost(("b", "a", "c", "d", "e"), ties, row), 199)
        self.assertIsNone(first_lost(("b", "a", "c", "d", "e"), ties, row[:199]))


class RefusedAsDone(unittest.TestCase):
    def test_ahead_of_all(self):
        # The first deed is lost, and yet the row is refused for a later one.
        self.assertEqual(first_lost(HEAP, TIES, ["a"]), 0)
        for ask in (first_lost, way_back):
            with self.assertRaises(MayNot) as held:
                ask(HEAP, TIES, ["a", "b"])
            self.assertEqual(held.exception.book, "b")
            for thing in ODD:
                if thing not in HEAP:
                    for row in ([thing], ["a", thing, "b"], ("a", "c", thing)):
                        with self.assertRaises(NoBook) as held:
                            ask(HEAP, TIES, row)
                        self.assertIs(held.exception.book, thing)

    def test_as_the_first_that_is(self):
        draw = random.Random(95)
        for heap, ties, row in drawn_rows(95, 60):
            for wrong in (draw.choice(heap), "zz", None):
                at = draw.randint(0, len(row))
                handed = row[:at] + [wrong] + row[at:]
                told = outcome(done, heap, ties, handed)
                if told.startswith("refused"):
                    self.assertEqual(outcome(first_lost, heap, ties, handed), told)
                    self.assertEqual(outcome(way_back, heap, ties, handed), told)


class WayBack(unittest.TestCase):
    def check(self, heap, ties, row):
        told = way_back(heap, ties, row)
        self.assertIs(type(told), list)
        self.assertIsNone(refused_place(left(heap, row), ties, told))
        self.assertEqual(left(left(heap, row), told), heap)
        return told

    def check_lost(self, heap, ties, row, place):
        with self.assertRaises(Lost) as held:
            way_back(heap, ties, row)
        self.assertEqual(repr(held.exception.place), repr(place))

    def test_told(self):
        self.assertEqual(way_back(("a", "b"), (), ["b"]), ["a"])
        self.assertEqual(way_back(("a", "b"), (), ["b", "a"]), [])
        self.assertEqual(way_back(("a", "b"), (), []), [])
        self.assertEqual(way_back(HEAP, TIES, ["c"]), ["a", "b"])
        self.check_lost(HEAP, TIES, ["a"], 0)
        self.check_lost(HEAP, TIES, ["c", "b"], 1)

    def test_of_the_fewest_goings_of_each(self):
        for heap, ties, row in drawn_rows(96, 80, most=5, longest=10):
            place = lost_place(heap, ties, row)
            if place is not None:
                self.check_lost(heap, ties, row, place)
            else:
                told = self.check(heap, ties, row)
                for book in heap:
                    self.assertEqual(told.count(book), fewest_from(left(heap, row), ties, book)[heap])

    def test_rows_of_200_deeds(self):
        draw = random.Random(97)
        for heap, ties in drawn_heaps(97, 20, least=12):
            kept = kept_row(draw, heap, ties, 200)
            self.assertEqual(len(kept), 200)
            self.check(heap, ties, kept)
            row = drawn_row(draw, heap, ties, 200)
            if lost_place(heap, ties, row) is not None:
                self.check_lost(heap, ties, row, lost_place(heap, ties, row))
            else:
                self.check(heap, ties, row)

    def test_what_is_told_goes_back_again(self):
        for heap, ties, row in drawn_rows(98, 30):
            if lost_place(heap, ties, row) is None:
                there = left(heap, row)
                back = way_back(heap, ties, row)
                again = way_back(there, ties, back)
                self.assertEqual(left(heap, again), there)


class Asking(unittest.TestCase):
    def test_can_go_back(self):
        for heap, ties in drawn_heaps(100, 25):
            for book in (heap[0], heap[-1], "none", 5, None):
                check_asking(self, can_go_back, {"heap": heap, "ties": ties, "book": book})
        for book in (["a"], ("a",), [("a", None)]):
            check_asking(self, can_go_back, {"heap": HEAP, "ties": TIES, "book": book}, exact=("book",))

    def test_rows(self):
        for heap, ties, row in drawn_rows(101, 12):
            check_asking(self, first_lost, {"heap": heap, "ties": ties, "row": row})
            check_asking(self, way_back, {"heap": heap, "ties": ties, "row": row})
            check_asking(self, first_lost, {"heap": heap, "ties": ties, "row": row + ["zz"]})
            check_asking(self, way_back, {"heap": heap, "ties": ties, "row": row + ["zz"]})


if __name__ == "__main__":
    unittest.main()
