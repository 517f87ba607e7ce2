"""[7] and [1] (a): which heap leads to which, by a row or by a ring, against a plain search through all heaps."""

import collections
import itertools
import random
import unittest

from heapfriends.between import between, leads
from heapfriends.rings import rings
from helper import (
    BOOKS, UNLIKE, all_ties, check_asking, check_unlike, drawn_barred, drawn_heap, drawn_heaps, drawn_row, drawn_ties,
    fewest_from, is_ring, left, number_of, refused_place, rings_by_trial,
)


class AgainstPlainSearch(unittest.TestCase):
    def check_all_others(self, heap, ties):
        fewest = {book: fewest_from(heap, ties, book) for book in heap}
        found = rings_by_trial(ties)
        for other in itertools.permutations(heap):
            led = other in fewest[heap[0]]
            grown = [ring for ring in found if number_of(other, ring) > number_of(heap, ring)]
            self.assertEqual(led, not grown)
            self.assertIs(leads(heap, other, ties), led)
            told = between(heap, other, ties)
            self.assertIs(type(told), tuple)
            self.assertEqual((len(told), type(told[1])), (2, list))
            if led:
                self.check_row(heap, other, ties, told, {book: fewest[book][other] for book in heap})
            else:
                self.check_ring(heap, other, ties, told)

    def check_row(self, heap, other, ties, told, fewest):
        self.assertEqual(told[0], "row")
        self.assertIsNone(refused_place(heap, ties, told[1]))
        self.assertEqual(left(heap, told[1]), other)
        self.assertEqual({book: told[1].count(book) for book in heap}, fewest)

    def check_ring(self, heap, other, ties, told):
        self.assertEqual(told[0], "ring")
        self.assertTrue(is_ring(ties, told[1]))
        self.assertGreater(number_of(other, told[1]), number_of(heap, told[1]))

    def test_all_ties_of_one_to_three_books(self):
        for heap in (("a",), ("b", "a"), ("a", "b", "c"), ("b", "c", "a")):
            for ties in all_ties(heap):
                self.check_all_others(heap, ties)

    def test_four_books(self):
        for heap, ties in drawn_heaps(40, 400, least=4, most=4):
            self.check_all_others(heap, ties)

    def test_five_books(self):
        for heap, ties in drawn_heaps(41, 60, least=5, most=5):
            self.check_all_others(heap, ties)


class Told(unittest.TestCase):
    def test_a_row(self):
        self.assertEqual(between(("a", "b"), ("b", "a"), (("a", "b"), ("b", "a"))), ("row", ["b"]))
        self.assertEqual(between(("a", "b"), ("b", "a"), ()), ("row", ["b"]))
        self.assertEqual(between(("a", "b", "c"), ("c", "b", "a"), ()), ("row", ["b", "c"]))

    def test_a_book_that_goes_twice(self):
        ties = (("a", "b"),)
        self.assertEqual(between(("a", "b", "c"), ("b", "a", "c"), ties), ("row", ["b"]))
        self.assertEqual(between(("a", "c", "b"), ("b", "a", "c"), ties), ("row", ["b"]))
        self.assertEqual(between(("c", "a", "b"), ("b", "a", "c"), ties), ("row", ["b", "a", "b"]))

    def test_a_ring(self):
        ties = (("a", "b"), ("b", "c"), ("c", "a"))
        self.assertIs(leads(("a", "b", "c"), ("c", "b", "a"), ties), False)
        kind, ring = between(("a", "b", "c"), ("c", "b", "a"), ties)
        self.assertEqual(kind, "ring")
        self.assertIn(ring, (["a", "b", "c"], ["b", "c", "a"], ["c", "a", "b"]))
        self.assertIs(leads(("c", "b", "a"), ("a", "b", "c"), ties), True)

    def test_the_same_heap(self):
        for heap, ties in drawn_heaps(42, 60):
            self.assertIs(leads(heap, heap, ties), True)
            self.assertEqual(repr(between(heap, heap, ties)), "('row', [])")
            self.assertEqual(repr(between(heap, list(heap), ties)), "('row', [])")


class TwelveBooks(unittest.TestCase):
    def test_what_a_row_leaves_is_led_to(self):
        draw = random.Random(43)
        for _ in range(120):
            heap = drawn_heap(draw, 12)
            ties = drawn_ties(draw, heap)
            row = drawn_row(draw, heap, ties, draw.randint(1, 200))
            other = left(heap, row)
            self.assertIs(leads(heap, other, ties), True)
            kind, told = between(heap, other, ties)
            self.assertEqual(kind, "row")
            self.assertIsNone(refused_place(heap, ties, told))
            self.assertEqual(left(heap, told), other)
            self.assertTrue(all(told.count(book) <= row.count(book) for book in heap))

    def test_a_row_or_a_ring_never_both(self):
        draw = random.Random(44)
        kinds = collections.Counter()
        for _ in range(200):
            heap = drawn_heap(draw, 12)
            other = tuple(draw.sample(heap, 12))
            ties = drawn_ties(draw, heap)
            kind, told = between(heap, other, ties)
            kinds[kind] += 1
            self.assertIs(leads(heap, other, ties), kind == "row")
            if kind == "row":
                self.assertIsNone(refused_place(heap, ties, told))
                self.assertEqual(left(heap, told), other)
            else:
                self.assertTrue(is_ring(ties, told))
                self.assertGreater(number_of(other, told), number_of(heap, told))
        self.assertEqual(set(kinds), {"row", "ring"})

    def test_a_ring_that_grows_bars(self):
        for heap, other, ties in drawn_barred(46, 60):
            self.assertIs(leads(heap, other, ties), False)
            kind, ring = between(heap, other, ties)
            self.assertEqual(kind, "ring")
            self.assertTrue(is_ring(ties, ring))
            self.assertGreater(number_of(other, ring), number_of(heap, ring))

    def test_just_where_no_ring_grows(self):
        draw = random.Random(45)
        for _ in range(60):
            heap = drawn_heap(draw, 12)
            other = tuple(draw.sample(heap, 12))
            ties = tuple(sorted(draw.sample(list(itertools.permutations(heap, 2)), draw.randint(8, 20))))
            grown = [ring for ring in rings(ties) if number_of(other, ring) > number_of(heap, ring)]
            self.assertIs(leads(heap, other, ties), not grown)

    def test_many_goings(self):
        # Each friend lies beneath and is to lie above, so it has to go once oftener than the one before it.
        ties = tuple(zip(BOOKS, BOOKS[1:]))
        kind, row = between(BOOKS, BOOKS[::-1], ties)
        self.assertEqual(kind, "row")
        self.assertIsNone(refused_place(BOOKS, ties, row))
        self.assertEqual(left(BOOKS, row), BOOKS[::-1])
        self.assertEqual([row.count(book) for book in BOOKS], list(range(12)))


class UnlikeHeaps(unittest.TestCase):
    def test_refused_ahead_of_all(self):
        check_unlike(self, leads)
        check_unlike(self, between)


class Asking(unittest.TestCase):
    def test_asking(self):
        draw = random.Random(47)
        for heap, ties in drawn_heaps(47, 40):
            named = {"heap": heap, "other": tuple(draw.sample(heap, len(heap))), "ties": ties}
            check_asking(self, leads, named)
            check_asking(self, between, named)

    def test_asking_what_is_refused(self):
        for heap, other in UNLIKE:
            for ask in (leads, between):
                check_asking(self, ask, {"heap": heap, "other": other, "ties": ()})


if __name__ == "__main__":
    unittest.main()
