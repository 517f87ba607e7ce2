"""[5]: books that go."""

import random
import unittest

from heapfriends.errors import MayNot, NoBook
from heapfriends.laying import done, first_refused, laid, left_by, may_go
from helper import (
    BOOKS, ODD, all_ties, check_asking, drawn_heaps, drawn_row, is_let, left, moved, refused_place,
)


def drawn_rows(seed, many, longest=30):
    """Triples (heap, ties, row), the rows of any books of the heap or such as are let."""
    draw = random.Random(seed)
    for heap, ties in drawn_heaps(seed, many):
        row = drawn_row(draw, heap, ties, draw.randint(0, longest))
        yield heap, ties, row
        yield heap, ties, row + [draw.choice(heap) for _ in range(draw.randint(1, 4))]


class MayGo(unittest.TestCase):
    def test_told(self):
        self.assertEqual(may_go(("c", "a", "b"), (("a", "b"), ("b", "c"))), ["b", "c"])
        self.assertEqual(may_go(("c", "a", "b"), ()), ["a", "b", "c"])
        self.assertEqual(may_go(("a", "b"), (("a", "b"),)), ["b"])
        self.assertEqual(may_go(("a",), ()), ["a"])

    def test_only_the_lowest(self):
        self.assertEqual(may_go(("a", "b", "c"), (("a", "b"), ("b", "c"), ("c", "b"))), ["c"])
        self.assertEqual(may_go(("a", "b", "c"), (("a", "b"), ("b", "c"))), ["c"])

    def test_any_heaps(self):
        for heap, ties in drawn_heaps(10, 200):
            self.assertEqual(repr(may_go(heap, ties)), repr([b for b in sorted(heap) if is_let(heap, ties, b)]))

    def test_all_ties_of_three_books(self):
        for ties in all_ties(("b", "c", "a")):
            free = [book for book in "abc" if is_let(("b", "c", "a"), ties, book)]
            self.assertEqual(may_go(("b", "c", "a"), ties), free)

    def test_asking(self):
        for heap, ties in drawn_heaps(11, 30):
            check_asking(self, may_go, {"heap": heap, "ties": ties})


class Laid(unittest.TestCase):
    def test_told(self):
        self.assertEqual(laid(("a", "b", "c"), (("c", "a"),), "c"), ("c", "a", "b"))
        self.assertEqual(laid(("a", "b", "c"), (), "b"), ("b", "a", "c"))

    def test_the_uppermost_changes_nothing(self):
        self.assertEqual(laid(("a", "b"), (("b", "a"),), "a"), ("a", "b"))
        self.assertEqual(laid(("a",), (), "a"), ("a",))

    def test_a_friend_beneath(self):
        for heap, ties, book in (
            (("a", "b"), (("a", "b"),), "a"),
            (("a", "b", "c"), (("b", "a"), ("b", "c")), "b"),
            (("a", "b", "c"), (("b", "c"),), "b"),
        ):
            with self.assertRaises(MayNot) as held:
                laid(heap, ties, book)
            self.assertEqual(held.exception.book, book)

    def test_each_book(self):
        for heap, ties in drawn_heaps(12, 150):
            for book in heap:
                if is_let(heap, ties, book):
                    self.assertEqual(repr(laid(heap, ties, book)), repr(moved(heap, book)))
                else:
                    with self.assertRaises(MayNot) as held:
                        laid(heap, ties, book)
                    self.assertEqual(held.exception.book, book)

    def test_no_book_of_the_heap(self):
        for heap, ties in ((("a", "b"), (("a", "b"),)), (("zz",), ()), (BOOKS, ())):
            for thing in ODD:
                if thing not in heap:
                    with self.assertRaises(NoBook) as held:
                        laid(heap, ties, thing)
                    self.assertIs(held.exception.book, thing)

    def test_the_refused_heap_is_as_it_was(self):
        heap, ties = ["a", "b"], [["a", "b"]]
        for book in ("a", "c", ["b"], None):
            with self.assertRaises((MayNot, NoBook)):
                laid(heap, ties, book)
        self.assertEqual((heap, ties), (["a", "b"], [["a", "b"]]))

    def test_asking(self):
        for heap, ties in drawn_heaps(13, 25):
            for book in (heap[0], heap[-1], "none", 5, None):
                check_asking(self, laid, {"heap": heap, "ties": ties, "book": book})
        for book in (["a"], ("a",), [("a", None)]):
            check_asking(self, laid, {"heap": ("a", "b"), "ties": (), "book": book}, exact=("book",))


class Done(unittest.TestCase):
    def test_told(self):
        ties = (("a", "b"), ("b", "a"))
        self.assertEqual(done(("a", "b"), ties, ["b"]), ("b", "a"))
        self.assertEqual(done(("a", "b"), ties, ["b", "a", "b"]), ("b", "a"))

    def test_the_bare_row(self):
        for row in ([], ()):
            for heap in (("b", "a"), ["b", "a"]):
                self.assertEqual(repr(done(heap, (("a", "b"),), row)), "('b', 'a')")

    def test_refused_as_the_first_that_is(self):
        heap, ties = ("a", "b", "c"), (("a", "b"),)
        for row, kind, book in (
            (["a"], MayNot, "a"), (["c", "a", "d"], MayNot, "a"), (["c", "d", "a"], NoBook, "d"),
            (["b", "a", "a"], MayNot, "a"), (["b", "a", None], NoBook, None), ([["a"], "a"], NoBook, ["a"]),
            ([3, 4], NoBook, 3), (["b", ("a", "b"), "zz"], NoBook, ("a", "b")),
        ):
            with self.assertRaises(kind) as held:
                done(heap, ties, row)
            self.assertEqual(repr(held.exception.book), repr(book))

    def test_the_thing_itself_is_the_field(self):
        for thing in ODD:
            if thing not in ("a", "b"):
                row = ["b", thing, "zz"]
                with self.assertRaises(NoBook) as held:
                    done(("a", "b"), (), row)
                self.assertIs(held.exception.book, thing)

    def test_any_rows(self):
        for heap, ties, row in drawn_rows(14, 150):
            place = refused_place(heap, ties, row)
            if place is None:
                self.assertEqual(repr(done(heap, ties, row)), repr(left(heap, row)))
            else:
                with self.assertRaises(MayNot) as held:
                    done(heap, ties, row)
                self.assertEqual(held.exception.book, row[place])

    def test_rows_of_200_deeds(self):
        draw = random.Random(15)
        lengths = []
        for heap, ties in drawn_heaps(15, 40):
            row = drawn_row(draw, heap, ties, 200)
            lengths.append(len(row))
            self.assertEqual(done(heap, ties, row), left(heap, row))
            self.assertIsNone(first_refused(heap, ties, row))
            self.assertEqual(left_by(heap, row), left(heap, row))
        self.assertIn(200, lengths)

    def test_asking(self):
        for heap, ties, row in drawn_rows(16, 15):
            check_asking(self, done, {"heap": heap, "ties": ties, "row": row})


class FirstRefused(unittest.TestCase):
    def test_told(self):
        heap, ties = ("a", "b", "c"), (("a", "b"), ("b", "a"))
        for row, place in (
            ([], None), (["b"], None), (["a"], 0), (["b", "b"], 1), (["b", "a", "b", "c"], None),
            (["b", "a", "a", "a"], 2), (["c", "c", "c", "a"], 3),
        ):
            self.assertEqual(repr(first_refused(heap, ties, row)), repr(place))

    def test_any_rows(self):
        for heap, ties, row in drawn_rows(17, 200):
            self.assertEqual(first_refused(heap, ties, row), refused_place(heap, ties, row))

    def test_asking(self):
        for heap, ties, row in drawn_rows(18, 15):
            check_asking(self, first_refused, {"heap": heap, "ties": ties, "row": row})


class LeftBy(unittest.TestCase):
    def test_told(self):
        self.assertEqual(left_by(("a", "b", "c"), ["c", "b", "c"]), ("c", "b", "a"))
        self.assertEqual(left_by(("a", "b", "c"), ["a", "a"]), ("a", "b", "c"))
        self.assertEqual(repr(left_by(["a", "b"], ())), "('a', 'b')")

    def test_rows_that_are_let_and_that_are_not(self):
        for heap, ties, row in drawn_rows(19, 150):
            self.assertEqual(repr(left_by(heap, row)), repr(left(heap, row)))

    def test_asking(self):
        for heap, ties, row in drawn_rows(20, 15):
            check_asking(self, left_by, {"heap": heap, "row": row})


if __name__ == "__main__":
    unittest.main()
