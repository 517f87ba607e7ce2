"""[10]: rows of the fewest goings, against a plain search through all rows."""

import itertools
import random
import unittest

from heapfriends.errors import Barred, TooMany, Unlike
from heapfriends.least import fewest, goings
from heapfriends.shortest import cheapest, first_row, next_ones, rows_many
from helper import (
    BOOKS, UNLIKE, all_ties, check_asking, check_barred, check_unlike, drawn_barred, drawn_heaps, drawn_led, is_let,
    least_costs, left, moved, refused_place,
)

LIMIT = 8


def shortest_rows(heap, ties):
    """By a plain search: a dict of all rows of the fewest goings to each heap that's led to."""
    found = {heap: [[]]}
    layer = [heap]
    while layer:
        reached = {}
        for here in layer:
            for mover in here:
                if is_let(here, ties, mover) and moved(here, mover) not in found:
                    reached.setdefault(moved(here, mover), []).extend(row + [mover] for row in found[here])
        found.update(reached)
        layer = list(reached)
    return found


def drawn_prices(draw, heap):
    most = draw.choice((0, 1, 3, 10 ** 12))
    return {book: draw.choice((0, most, draw.randint(0, most))) for book in heap}


class AgainstPlainSearch(unittest.TestCase):
    def check_all_led(self, heap, ties):
        for other, rows in shortest_rows(heap, ties).items():
            self.assertEqual(repr(first_row(heap, other, ties)), repr(min(rows)))
            begun = sorted({row[0] for row in rows if row})
            self.assertEqual(repr(next_ones(heap, other, ties)), repr(begun))
            self.check_many(heap, other, ties, rows)

    def check_many(self, heap, other, ties, rows):
        if len(rows[0]) <= LIMIT:
            self.assertEqual(repr(rows_many(heap, other, ties)), repr(len(rows)))
        else:
            with self.assertRaises(TooMany) as held:
                rows_many(heap, other, ties)
            self.assertEqual(repr(held.exception.many), repr(len(rows[0])))

    def test_all_ties_of_one_to_three_books(self):
        for heap in (("a",), ("b", "a"), ("a", "b", "c"), ("b", "c", "a")):
            for ties in all_ties(heap):
                self.check_all_led(heap, ties)

    def test_four_books(self):
        for heap, ties in drawn_heaps(80, 80, least=4, most=4):
            self.check_all_led(heap, ties)

    def test_five_books(self):
        for heap, ties in drawn_heaps(81, 12, least=5, most=5):
            self.check_all_led(heap, ties)

    def test_five_books_that_go_often(self):
        heap = ("d", "a", "c", "e", "b")
        self.check_all_led(heap, tuple(sorted(zip(heap, heap[1:]))))


class Told(unittest.TestCase):
    def test_one_row(self):
        self.assertEqual(first_row(("a", "b", "c"), ("c", "b", "a"), ()), ["b", "c"])
        self.assertEqual(next_ones(("a", "b", "c"), ("c", "b", "a"), ()), ["b"])
        self.assertEqual(rows_many(("a", "b", "c"), ("c", "b", "a"), ()), 1)

    def test_several_rows(self):
        # All is fixed but when b goes for the first time: there are four places for it ahead of a.
        heap, other, ties = ("x", "a", "b", "c", "d"), ("b", "a", "d", "c", "x"), (("a", "b"), ("c", "d"))
        self.assertEqual(first_row(heap, other, ties), ["b", "d", "c", "d", "a", "b"])
        self.assertEqual(next_ones(heap, other, ties), ["b", "d"])
        self.assertEqual(rows_many(heap, other, ties), 4)

    def test_the_same_heap(self):
        for heap, ties in drawn_heaps(82, 40):
            for other in (heap, list(heap)):
                self.assertEqual(repr(first_row(heap, other, ties)), "[]")
                self.assertEqual(repr(next_ones(heap, other, ties)), "[]")
                self.assertEqual(repr(rows_many(heap, other, ties)), "1")
                self.assertEqual(repr(cheapest(heap, other, ties, {book: 7 for book in heap})), "(0, [])")

    def test_twelve_books(self):
        for heap, other, ties, _ in drawn_led(83, 25, least=12, longest=40):
            row = first_row(heap, other, ties)
            self.assertIsNone(refused_place(heap, ties, row))
            self.assertEqual(left(heap, row), other)
            self.assertEqual([(book, row.count(book)) for book in sorted(heap)], goings(heap, other, ties))
            self.assertEqual(row[:1], next_ones(heap, other, ties)[:1])

    def test_sixty_six_goings(self):
        ties = tuple(zip(BOOKS, BOOKS[1:]))
        row = first_row(BOOKS, BOOKS[::-1], ties)
        self.assertIsNone(refused_place(BOOKS, ties, row))
        self.assertEqual(left(BOOKS, row), BOOKS[::-1])
        self.assertEqual(len(row), 66)


class RowsMany(unittest.TestCase):
    def test_as_many_goings_as_are_counted(self):
        for many in range(12):
            # So many of the lowest go, each once, in the one order that leaves other.
            other = BOOKS[::-1][:many] + BOOKS[:12 - many]
            self.assertEqual(fewest(BOOKS, other, ()), many)
            if many <= LIMIT:
                self.assertEqual(rows_many(BOOKS, other, ()), 1)
            else:
                with self.assertRaises(TooMany) as held:
                    rows_many(BOOKS, other, ())
                self.assertEqual(repr(held.exception.many), repr(many))

    def test_twelve_books(self):
        counted, refused = 0, 0
        for heap, other, ties, _ in drawn_led(84, 40, least=12, longest=10):
            many = fewest(heap, other, ties)
            if many > LIMIT:
                refused += 1
                with self.assertRaises(TooMany) as held:
                    rows_many(heap, other, ties)
                self.assertEqual(held.exception.many, many)
            else:
                counted += 1
                self.assertEqual(rows_many(heap, other, ties), len(self.all_rows(heap, other, ties)))
        self.assertGreater(min(counted, refused), 3)

    def all_rows(self, heap, other, ties):
        """All orders of the goings that are let and leave other."""
        rows = [([], heap, dict(goings(heap, other, ties)))]
        for _ in range(fewest(heap, other, ties)):
            rows = [
                (row + [book], moved(here, book), {**rest, book: rest[book] - 1})
                for row, here, rest in rows for book in here if rest[book] and is_let(here, ties, book)
            ]
        return [row for row, here, _ in rows if here == other]

    def test_refused_behind_unlike_and_barred(self):
        with self.assertRaises(Unlike):
            rows_many(BOOKS, BOOKS[1:] + ("zz",), ())
        ties = tuple(sorted([("a", "b"), ("ab", "a"), ("b", "ab")]))
        with self.assertRaises(Barred):
            rows_many(BOOKS[::-1], BOOKS, ties)
        with self.assertRaises(TooMany) as held:
            rows_many(BOOKS, BOOKS[::-1], ties)
        self.assertGreater(held.exception.many, LIMIT)


class Cheapest(unittest.TestCase):
    def check(self, heap, other, ties, prices, least):
        told = cheapest(heap, other, ties, prices)
        self.assertIs(type(told), tuple)
        price, row = told
        self.assertIs(type(row), list)
        self.assertEqual(repr(price), repr(least))
        self.assertEqual(sum(prices[book] for book in row), least)
        self.assertIsNone(refused_place(heap, ties, row))
        self.assertEqual(left(heap, row), other)
        self.assertEqual([(book, row.count(book)) for book in sorted(heap)], goings(heap, other, ties))

    def test_told(self):
        heap, other, ties = ("c", "a", "b"), ("b", "a", "c"), (("a", "b"),)
        self.assertEqual(cheapest(heap, other, ties, {"a": 5, "b": 7, "c": 1}), (19, ["b", "a", "b"]))
        self.assertEqual(cheapest(heap, other, ties, {"a": 0, "b": 0, "c": 0}), (0, ["b", "a", "b"]))
        self.assertEqual(cheapest(heap, other, ties, {"c": 0, "b": 10 ** 12, "a": 1})[0], 2 * 10 ** 12 + 1)

    def test_the_least_of_all_rows(self):
        draw = random.Random(85)
        for heap, ties in drawn_heaps(85, 120, most=5):
            prices = drawn_prices(draw, heap)
            for other, least in least_costs(heap, ties, prices).items():
                self.check(heap, other, ties, prices, least)

    def test_twelve_books(self):
        draw = random.Random(86)
        for heap, other, ties, row in drawn_led(86, 60, least=12, longest=200):
            prices = drawn_prices(draw, heap)
            least = sum(prices[book] * number for book, number in goings(heap, other, ties))
            self.assertLessEqual(least, sum(prices[book] for book in row))
            self.check(heap, other, ties, prices, least)

    def test_prices_are_left_as_they_were(self):
        prices = {"b": 2, "a": 1}
        cheapest(("a", "b"), ("b", "a"), (), prices)
        self.assertEqual(list(prices.items()), [("b", 2), ("a", 1)])


class Refused(unittest.TestCase):
    def test_unlike_heaps(self):
        for ask in (first_row, next_ones, rows_many):
            check_unlike(self, ask)
        check_unlike(self, cheapest, {book: 1 for pair in UNLIKE for heap in pair for book in heap})

    def test_where_it_is_not_led_there(self):
        for ask in (first_row, next_ones, rows_many):
            check_barred(self, ask)
        check_barred(self, cheapest, {book: 1 for book in BOOKS})


class Asking(unittest.TestCase):
    def test_asking(self):
        draw = random.Random(87)
        for heap, other, ties, _ in drawn_led(87, 15, most=7, longest=12):
            self.check(heap, other, ties, drawn_prices(draw, heap))

    def test_asking_what_is_refused(self):
        for heap, other, ties in [(heap, other, ()) for heap, other in UNLIKE] + list(drawn_barred(88, 8)):
            self.check(heap, other, ties, {book: 1 for book in heap})
        check_asking(self, rows_many, {"heap": BOOKS, "other": BOOKS[::-1], "ties": ()})

    def check(self, heap, other, ties, prices):
        named = {"heap": heap, "other": other, "ties": ties}
        for ask in (first_row, next_ones, rows_many):
            check_asking(self, ask, named)
        check_asking(self, cheapest, {**named, "prices": prices})

    def test_what_is_told_may_be_handed_in_again(self):
        for heap, other, ties, _ in drawn_led(89, 20, most=8):
            row = first_row(heap, other, ties)
            for at in range(len(row)):
                self.assertEqual(first_row(left(heap, row[:at]), other, ties), row[at:])

    def test_every_order_of_no_ties(self):
        for many in range(1, 5):
            for other in itertools.permutations(BOOKS[:many]):
                self.assertEqual(rows_many(BOOKS[:many], other, ()), 1)


if __name__ == "__main__":
    unittest.main()
