"""[13] and [1] (c): how many heaps are led to, are alike, and how many lots there are."""

import itertools
import math
import random
import unittest
from unittest import mock

from heapfriends import many as many_file
from heapfriends.errors import TooMany
from heapfriends.many import all_led, led_many, lot_many, lots_many
from helper import (
    BOOKS, all_ties, check_asking, drawn_heap, drawn_heaps, drawn_ties, knots_by_trial, led_to, moved, number_of,
    rings_by_trial, round_ties,
)

ALL = (led_many, lot_many, lots_many, all_led)

# Seven books, six of them in a knot: the nearest numbers to MOST_LED that were found on both sides.
LED_798 = (
    ("ab", "fable", "d", "bell", "folder", "c", "g"),
    (("ab", "d"), ("c", "fable"), ("d", "folder"), ("d", "g"), ("fable", "folder"), ("fable", "g"), ("folder", "c"),
     ("g", "ab")),
)
LED_840 = (
    ("ab", "h", "e", "a", "dd", "fable", "b"),
    (("a", "h"), ("b", "e"), ("dd", "a"), ("dd", "fable"), ("e", "dd"), ("fable", "b"), ("h", "fable")),
)


def clique(books):
    return tuple(sorted(itertools.permutations(books, 2)))


def numbers_of(heap, found):
    return tuple(number_of(heap, ring) for ring in found)


def counts_by_rings(heap, ties):
    """How many orders no ring's number grows to, how many have the same numbers, and how many numbers there are."""
    found = rings_by_trial(ties)
    here = numbers_of(heap, found)
    numbers = [numbers_of(order, found) for order in itertools.permutations(heap)]
    led = sum(all(there <= own for there, own in zip(other, here)) for other in numbers)
    return led, numbers.count(here), len(set(numbers))


def by_knots(heap, ties):
    """The same three numbers, of the knots' and multiplied."""
    led = lot = math.factorial(len(heap))
    lots = 1
    for knot in knots_by_trial(ties):
        lain = tuple(book for book in heap if book in knot)
        tied = tuple(pair for pair in ties if pair[0] in knot and pair[1] in knot)
        counts = counts_by_rings(lain, tied)
        led = led // math.factorial(len(knot)) * counts[0]
        lot = lot // math.factorial(len(knot)) * counts[1]
        lots *= counts[2]
    return led, lot, lots


def drawn_knots(draw, heap, sizes):
    """TIES with knots of these sizes, and some ties from each to later ones."""
    places = draw.sample(heap, len(heap))
    parts, ties = [], set()
    for size in sizes:
        parts.append(places[:size])
        places = places[size:]
        ties |= set(round_ties(parts[-1]))
        ties |= {pair for pair in itertools.permutations(parts[-1], 2) if draw.random() < 0.15}
    for one, other in itertools.combinations(parts + [[book] for book in places], 2):
        ties |= {pair for pair in itertools.product(one, other) if draw.random() < 0.2}
    return tuple(sorted(ties))


class AgainstPlainSearch(unittest.TestCase):
    def check(self, heap, ties):
        led = {order: led_to(order, ties) for order in itertools.permutations(heap)}
        lots = {frozenset(other for other in led[order] if order in led[other]) for order in led}
        mine = [lot for lot in lots if heap in lot]
        self.assertEqual(len(mine), 1)
        self.assertEqual(repr(led_many(heap, ties)), repr(len(led[heap])))
        self.assertEqual(repr(lot_many(heap, ties)), repr(len(mine[0])))
        self.assertEqual(repr(lots_many(heap, ties)), repr(len(lots)))
        self.assertEqual(repr(all_led(heap, ties)), repr(sorted(led[heap])))

    def test_all_ties_of_one_to_three_books(self):
        for heap in (("a",), ("b", "a"), ("a", "b", "c"), ("b", "c", "a")):
            for ties in all_ties(heap):
                self.check(heap, ties)

    def test_four_books(self):
        for heap, ties in drawn_heaps(130, 80, least=4, most=4):
            self.check(heap, ties)

    def test_five_books(self):
        draw = random.Random(131)
        for share in (5, 7, 9, 12, 16):
            heap = drawn_heap(draw, 5)
            self.check(heap, tuple(sorted(draw.sample(list(itertools.permutations(heap, 2)), share))))

    def test_six_books_by_their_rings(self):
        draw = random.Random(132)
        for sizes in ((6,), (6,), (5,), (4, 2), (3, 3), (2, 2, 2), (3, 2), ()):
            heap = drawn_heap(draw, 6)
            ties = drawn_knots(draw, heap, sizes)
            counts = counts_by_rings(heap, ties)
            self.assertEqual((led_many(heap, ties), lot_many(heap, ties), lots_many(heap, ties)), counts)
            self.assertEqual(all_led(heap, ties), sorted(led_to(heap, ties)))


class Told(unittest.TestCase):
    def test_without_ties(self):
        for many in range(1, 13):
            for ties in ((), tuple(sorted(itertools.combinations(BOOKS[:many], 2)))):
                heap = BOOKS[:many]
                self.assertEqual(led_many(heap, ties), math.factorial(many))
                self.assertEqual(lot_many(heap, ties), math.factorial(many))
                self.assertEqual(lots_many(heap, ties), 1)

    def test_single_rings(self):
        # A ring's number is told by nothing else, from 1 to one less than its books; a heap leads to all lower ones.
        for many in range(2, 7):
            ties = round_ties(list(BOOKS[:many]))
            for heap in (BOOKS[:many], BOOKS[:many][::-1], BOOKS, BOOKS[::-1]):
                numbers = [number_of(order, list(BOOKS[:many])) for order in itertools.permutations(BOOKS[:many])]
                here = number_of(heap, list(BOOKS[:many]))
                share = math.factorial(len(heap)) // math.factorial(many)
                self.assertEqual(led_many(heap, ties), share * sum(number <= here for number in numbers))
                self.assertEqual(lot_many(heap, ties), share * numbers.count(here))
                self.assertEqual(lots_many(heap, ties), many - 1)

    def test_two_knots_of_six(self):
        ties = tuple(sorted(clique(BOOKS[:6]) + clique(BOOKS[6:])))
        # Each with each: only what goes round, the lowest to the top, is led to.
        self.assertEqual(led_many(BOOKS, ties), 924 * 6 * 6)
        self.assertEqual(lot_many(BOOKS, ties), 924 * 6 * 6)
        self.assertEqual(lots_many(BOOKS, ties), 120 * 120)

    def test_twelve_books_in_knots(self):
        draw = random.Random(133)
        for sizes in ((6, 6), (6, 4, 2), (5, 5), (6, 3), (4, 4, 4), (3, 3, 3, 3), (2,) * 6, (6,), (2,), (3, 2)):
            heap = drawn_heap(draw, 12)
            ties = drawn_knots(draw, heap, sizes)
            self.assertEqual(sorted(map(len, knots_by_trial(ties))), sorted(sizes))
            led, lot, lots = by_knots(heap, ties)
            self.assertEqual(repr(led_many(heap, ties)), repr(led))
            self.assertEqual(repr(lot_many(heap, ties)), repr(lot))
            self.assertEqual(repr(lots_many(heap, ties)), repr(lots))
            with self.assertRaises(TooMany) as held:
                all_led(heap, ties)
            self.assertEqual(repr(held.exception.many), repr(led))

    def test_ties_between_knots_change_nothing(self):
        draw = random.Random(134)
        for _ in range(10):
            heap = drawn_heap(draw, 9)
            bare = tuple(sorted(round_ties(list(heap[1:5])) + round_ties(list(heap[6:9]))))
            ties = tuple(sorted({*bare, *itertools.product(heap[1:5], heap[6:9]), (heap[0], heap[2])}))
            lain = tuple(draw.sample(heap, 9))
            for ask in (led_many, lot_many, lots_many):
                self.assertEqual(ask(lain, ties), ask(lain, bare))

    def test_the_uppermost_book_that_goes_is_no_new_heap(self):
        self.assertEqual(all_led(("a",), ()), [("a",)])
        self.assertEqual(all_led(("b", "a"), (("a", "b"), ("b", "a"))), [("a", "b"), ("b", "a")])
        self.assertEqual(all_led(("a", "b", "c"), round_ties(["a", "b", "c"])),
                         [("a", "b", "c"), ("b", "c", "a"), ("c", "a", "b")])


class TooGreatKnots(unittest.TestCase):
    def check_refused(self, heap, ties, many, asks=ALL):
        for ask in asks:
            with self.assertRaises(TooMany) as held:
                ask(heap, ties)
            self.assertEqual(repr(held.exception.many), repr(many))

    def test_more_than_six(self):
        for many in range(7, 13):
            for heap in (BOOKS, BOOKS[:many], BOOKS[:many][::-1]):
                for ties in (round_ties(list(BOOKS[:many])), clique(BOOKS[:many])):
                    self.check_refused(heap, ties, many)

    def test_the_greatest_of_several(self):
        ties = tuple(sorted(round_ties(list(BOOKS[:5])) + round_ties(list(BOOKS[5:]))))
        self.check_refused(BOOKS, ties, 7)
        ties = tuple(sorted(round_ties(list(BOOKS[:8])) + round_ties(list(BOOKS[8:]))))
        self.check_refused(BOOKS, ties, 8)

    def test_two_rings_that_share_a_book(self):
        ties = tuple(sorted(round_ties(list(BOOKS[:4])) + round_ties(list(BOOKS[3:7]))))
        self.check_refused(BOOKS, ties, 7)

    def test_just_six(self):
        for heap in (BOOKS[:6], BOOKS[:7], BOOKS[:8]):
            for ties in (round_ties(list(BOOKS[:6])), clique(BOOKS[:6])):
                counts = by_knots(heap, ties)
                self.assertEqual((led_many(heap, ties), lot_many(heap, ties), lots_many(heap, ties)), counts)
                if counts[0] <= 800:
                    self.assertEqual(all_led(heap, ties), sorted(led_to(heap, ties)))
        self.assertEqual(len(all_led(BOOKS[:8], clique(BOOKS[:6]))), 336)

    def test_the_knot_ahead_of_how_many_are_led_to(self):
        # Of twelve books far more than MOST_LED are led to; what is told is the knot.
        self.check_refused(BOOKS, clique(BOOKS[:7]), 7)
        # Of these seven so few are led to that only the knot is refused.
        self.assertEqual(len(led_to(BOOKS[:7], clique(BOOKS[:7]))), 7)
        self.check_refused(BOOKS[:7], clique(BOOKS[:7]), 7)


class TooManyLed(unittest.TestCase):
    def check_refused(self, heap, ties, many):
        with self.assertRaises(TooMany) as held:
            all_led(heap, ties)
        self.assertEqual(repr(held.exception.many), repr(many))
        self.assertEqual(led_many(heap, ties), many)

    def test_without_ties(self):
        self.assertEqual(all_led(BOOKS[:6], ()), list(itertools.permutations(BOOKS[:6])))
        self.check_refused(BOOKS[:7], (), 5040)
        self.check_refused(BOOKS, (), math.factorial(12))

    def test_on_both_sides_of_the_limit(self):
        heap, ties = LED_798
        told = all_led(heap, ties)
        self.assertEqual((len(told), led_many(heap, ties)), (798, 798))
        self.assertEqual(told, sorted(led_to(heap, ties)))
        self.check_refused(*LED_840, 840)

    def test_just_the_limit(self):
        # No heap that leads to just MOST_LED was found, so the limit is put where one leads to just so many.
        heap, ties = LED_798
        with mock.patch.object(many_file, "MOST_LED", 798):
            self.assertEqual(len(all_led(heap, ties)), 798)
        with mock.patch.object(many_file, "MOST_LED", 797):
            self.check_refused(heap, ties, 798)

    def test_drawn(self):
        draw = random.Random(135)
        told, refused = 0, 0
        for _ in range(25):
            heap = drawn_heap(draw, draw.choice((7, 8)))
            ties = drawn_knots(draw, heap, draw.choice(((6,), (6, 2) if len(heap) == 8 else (5, 2))))
            many = len(led_to(heap, ties))
            if many <= 800:
                told += 1
                self.assertEqual(all_led(heap, ties), sorted(led_to(heap, ties)))
            else:
                refused += 1
                self.check_refused(heap, ties, many)
        self.assertGreater(min(told, refused), 0)

    def test_the_other_three_are_told_beyond_it(self):
        heap, ties = LED_840
        self.assertEqual((led_many(heap, ties), lot_many(heap, ties), lots_many(heap, ties)), by_knots(heap, ties))


class AllLed(unittest.TestCase):
    def test_led_one_by_one(self):
        for heap, ties in drawn_heaps(136, 40, most=6):
            told = all_led(heap, ties)
            self.assertEqual(told, sorted(set(told)))
            self.assertIn(heap, told)
            self.assertEqual(len(told), led_many(heap, ties))
            self.assertTrue(all(type(each) is tuple for each in told))
            self.assertIn(moved(heap, heap[-1]), told)


class Asking(unittest.TestCase):
    def test_asking(self):
        draw = random.Random(137)
        for many in list(range(1, 7)) * 3:
            heap = drawn_heap(draw, many)
            ties = drawn_ties(draw, heap)
            for ask in ALL:
                check_asking(self, ask, {"heap": heap, "ties": ties})

    def test_asking_of_more_books(self):
        draw = random.Random(138)
        for sizes in ((6, 6), (4, 3), (7,), (9, 2), ()):
            heap = drawn_heap(draw, 12)
            ties = drawn_knots(draw, heap, sizes)
            for ask in ALL:
                check_asking(self, ask, {"heap": heap, "ties": ties})


if __name__ == "__main__":
    unittest.main()
