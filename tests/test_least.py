"""[8]: the fewest goings, against a plain search through all heaps."""

import itertools
import random
import unittest

from heapfriends.between import between
from heapfriends.least import fewest, goings, wasted
from helper import (
    BOOKS, UNLIKE, all_ties, check_asking, check_barred, check_unlike, drawn_barred, drawn_heap, drawn_heaps,
    drawn_led, drawn_row, drawn_ties, fewest_from, left,
)


def counted(heap, row):
    return [(book, row.count(book)) for book in sorted(heap)]


class AgainstPlainSearch(unittest.TestCase):
    def check_all_led(self, heap, ties):
        alone = {book: fewest_from(heap, ties, book) for book in sorted(heap)}
        for other in alone[heap[0]]:
            told = [(book, alone[book][other]) for book in alone]
            self.assertEqual(repr(goings(heap, other, ties)), repr(told))
            self.assertEqual(repr(fewest(heap, other, ties)), repr(sum(number for _, number in told)))

    def test_all_ties_of_one_to_three_books(self):
        for heap in (("a",), ("b", "a"), ("a", "b"), ("a", "b", "c"), ("b", "c", "a")):
            for ties in all_ties(heap):
                self.check_all_led(heap, ties)

    def test_four_and_five_books(self):
        for heap, ties in drawn_heaps(60, 200, least=4, most=4):
            self.check_all_led(heap, ties)
        for heap, ties in drawn_heaps(61, 60, least=5, most=5):
            self.check_all_led(heap, ties)


class Told(unittest.TestCase):
    def test_goings_and_fewest(self):
        heap, other, ties = ("c", "a", "b"), ("b", "a", "c"), (("a", "b"),)
        self.assertEqual(goings(heap, other, ties), [("a", 1), ("b", 2), ("c", 0)])
        self.assertEqual(fewest(heap, other, ties), 3)
        self.assertEqual(goings(("a", "b"), ("b", "a"), ()), [("a", 0), ("b", 1)])

    def test_noughts_alone_of_the_same_heap(self):
        for heap, ties in drawn_heaps(62, 60):
            for other in (heap, list(heap)):
                self.assertEqual(repr(goings(heap, other, ties)), repr([(book, 0) for book in sorted(heap)]))
                self.assertEqual(repr(fewest(heap, other, ties)), "0")

    def test_many_goings(self):
        # Each friend lies beneath and is to lie above, so it has to go once oftener than the one before it.
        ties = tuple(zip(BOOKS, BOOKS[1:]))
        self.assertEqual(goings(BOOKS, BOOKS[::-1], ties), list(zip(BOOKS, range(12))))
        self.assertEqual(fewest(BOOKS, BOOKS[::-1], ties), 66)

    def test_twelve_books(self):
        for heap, other, ties, row in drawn_led(63, 150, least=12, longest=200):
            told = goings(heap, other, ties)
            self.assertEqual([book for book, _ in told], sorted(heap))
            self.assertTrue(all(number <= row.count(book) for book, number in told))
            self.assertEqual(told, counted(heap, between(heap, other, ties)[1]))
            self.assertEqual(fewest(heap, other, ties), sum(number for _, number in told))

    def test_no_book_goes_more_seldom_however_it_is_come_there(self):
        draw = random.Random(64)
        for _ in range(40):
            heap = drawn_heap(draw, 6)
            ties = drawn_ties(draw, heap)
            least = {}
            for _ in range(60):
                row = drawn_row(draw, heap, ties, draw.randint(0, 12))
                least.setdefault(left(heap, row), []).append(row)
            for other, rows in least.items():
                for book, number in goings(heap, other, ties):
                    self.assertLessEqual(number, min(row.count(book) for row in rows))


class Wasted(unittest.TestCase):
    heap, other, ties = ("c", "a", "b"), ("b", "a", "c"), (("a", "b"),)

    def test_told(self):
        for row, told in (
            (["b", "a", "b"], []), (["b", "a", "b", "b"], [("b", 1)]), (["c", "b", "a", "b"], [("c", 1)]),
            (["c", "b", "a", "b", "a", "b", "b"], [("a", 1), ("b", 2), ("c", 1)]),
        ):
            self.assertEqual(left(self.heap, row), self.other)
            self.assertEqual(repr(wasted(self.heap, self.other, self.ties, row)), repr(told))

    def test_the_same_heap(self):
        self.assertEqual(wasted(("a", "b"), ("a", "b"), (), []), [])
        self.assertEqual(wasted(("a", "b"), ("a", "b"), (), ["a"] * 200), [("a", 200)])
        self.assertEqual(wasted(("a", "b"), ("a", "b"), (), ["b", "a"]), [("a", 1), ("b", 1)])

    def test_none_of_a_row_of_the_fewest(self):
        for heap, other, ties, _ in drawn_led(65, 100):
            self.assertEqual(wasted(heap, other, ties, between(heap, other, ties)[1]), [])

    def test_any_rows_that_lead_there(self):
        wasteful = 0
        for heap, other, ties, row in drawn_led(66, 150, longest=200):
            least = dict(goings(heap, other, ties))
            more = [(book, often - least[book]) for book, often in counted(heap, row) if often != least[book]]
            self.assertTrue(all(number > 0 for _, number in more))
            self.assertEqual(repr(wasted(heap, other, ties, row)), repr(more))
            wasteful += bool(more)
        self.assertGreater(wasteful, 50)

    def test_rows_of_200_deeds(self):
        draw = random.Random(67)
        for heap, ties in drawn_heaps(67, 30, least=12):
            row = drawn_row(draw, heap, ties, 200)
            self.assertEqual(len(row), 200)
            told = dict(wasted(heap, left(heap, row), ties, row))
            least = goings(heap, left(heap, row), ties)
            self.assertEqual([(book, row.count(book) - told.get(book, 0)) for book in sorted(heap)], least)

    def test_all_short_rows(self):
        for many in range(6):
            for row in itertools.product("abc", repeat=many):
                other = left(self.heap, row)
                least = goings(self.heap, other, ())
                told = [(book, row.count(book) - number) for book, number in least if row.count(book) > number]
                self.assertEqual(wasted(self.heap, other, (), row), told)


class Refused(unittest.TestCase):
    def test_unlike_heaps(self):
        check_unlike(self, goings)
        check_unlike(self, fewest)
        check_unlike(self, wasted, [])

    def test_where_it_is_not_led_there(self):
        check_barred(self, goings)
        check_barred(self, fewest)
        check_barred(self, wasted, [])


class Asking(unittest.TestCase):
    def test_asking(self):
        for heap, other, ties, row in drawn_led(68, 25):
            named = {"heap": heap, "other": other, "ties": ties}
            check_asking(self, goings, named)
            check_asking(self, fewest, named)
            check_asking(self, wasted, {**named, "row": row})

    def test_asking_what_is_refused(self):
        refused = [(heap, other, ()) for heap, other in UNLIKE] + list(drawn_barred(69, 10))
        for heap, other, ties in refused:
            named = {"heap": heap, "other": other, "ties": ties}
            check_asking(self, goings, named)
            check_asking(self, fewest, named)
            check_asking(self, wasted, {**named, "row": []})


if __name__ == "__main__":
    unittest.main()
