"""[15] and [1] (e): a row through all heaps seen, and heaps seen in a lost order, against plain looks at all orders."""

import collections
import itertools
import random
import unittest

from heapfriends.errors import Apart, Gap, Unlike
from heapfriends.sightings import history, in_order
from helper import (
    BOOKS, UNLIKE, check_asking, drawn_barred, drawn_heap, drawn_heaps, drawn_row, drawn_ties, is_let, is_ring, led_to,
    left, moved, number_of, refused_place, round_ties,
)

RING = (("a", "b"), ("b", "c"), ("c", "a"))


def drawn_seen(seed, many, least=1, most=12, most_seen=8, longest=12):
    """Triples (heap, ties, seen): each heap seen is led to by the one before it."""
    draw = random.Random(seed)
    for heap, ties in drawn_heaps(seed, many, least, most):
        yield heap, ties, seen_from(draw, heap, ties, draw.randint(0, most_seen), longest)


def seen_from(draw, heap, ties, many, longest):
    seen = []
    for _ in range(many):
        heap = left(heap, drawn_row(draw, heap, ties, draw.randint(0, longest)))
        seen.append(heap)
    return seen


def drawn_gaps(seed, many, least=3, most=12):
    """Quadruples (heap, ties, seen, place): the heap seen at the place is the first gap, others may follow."""
    draw = random.Random(seed)
    for heap, other, ties in drawn_barred(seed, many, least, most):
        before = [heap] * draw.randint(0, 3)
        behind = [tuple(draw.sample(heap, len(heap))) for _ in range(draw.randint(0, 4))]
        yield heap, ties, before + [other] + behind, len(before)


def heaps_through(heap, row):
    """The heap and all that the row leaves, deed by deed."""
    return [left(heap, row[:many]) for many in range(len(row) + 1)]


def leads_through(heap, row, seen):
    """Whether the seen ones stand among the heaps of the row, one behind the other."""
    at, stood = 0, heaps_through(heap, row)
    for wanted in seen:
        while at < len(stood) and stood[at] != wanted:
            at += 1
        if at == len(stood):
            return False
    return True


def fewest_through(heap, ties, seen, book):
    """By a plain search: how often the book goes at the fewest in a row that leads through all."""
    def passed(here, many):
        while many < len(seen) and seen[many] == here:
            many += 1
        return here, many

    first = passed(heap, 0)
    least = {first: 0}
    waiting = collections.deque([first])
    while waiting:
        here, many = waiting.popleft()
        for mover in here:
            if is_let(here, ties, mover):
                there = passed(moved(here, mover), many)
                price = least[(here, many)] + (mover == book)
                if price < least.get(there, price + 1):
                    least[there] = price
                    waiting.append(there)
    return min(price for (_, many), price in least.items() if many == len(seen))


class History(unittest.TestCase):
    def check(self, heap, ties, seen):
        row = history(heap, ties, seen)
        self.assertIs(type(row), list)
        self.assertIsNone(refused_place(heap, ties, row))
        self.assertTrue(leads_through(heap, row, seen))
        return row

    def check_gap(self, heap, ties, seen, place):
        for _ in range(2):
            with self.assertRaises(Gap) as held:
                history(heap, ties, seen)
            self.assertEqual(repr(held.exception.place), repr(place))
            ring, before = held.exception.ring, ([heap] + seen)[place]
            self.assertTrue(is_ring(ties, ring))
            self.assertGreater(number_of(seen[place], ring), number_of(before, ring))
            # The ring that is told is the asker's own, so the next one told is none the worse for it.
            ring.append("changed")

    def test_told(self):
        self.assertEqual(history(("a", "b"), (), [("b", "a")]), ["b"])
        self.assertEqual(history(("a", "b"), (), [("b", "a"), ("a", "b")]), ["b", "a"])
        self.assertEqual(history(("a", "b"), (), [("a", "b"), ("b", "a"), ("b", "a"), ("a", "b")]), ["b", "a"])
        self.assertEqual(history(("a", "b", "c"), RING, [("c", "a", "b"), ("b", "c", "a")]), ["c", "b"])
        self.check_gap(("a", "b", "c"), RING, [("c", "b", "a")], 0)
        self.check_gap(("c", "b", "a"), RING, [("b", "a", "c"), ("a", "b", "c"), ("c", "a", "b"), ("c", "b", "a")], 3)

    def test_of_none(self):
        for heap, ties in drawn_heaps(150, 20):
            for seen in ([], ()):
                self.assertEqual(repr(history(heap, ties, seen)), "[]")

    def test_one_book(self):
        self.assertEqual(history(("a",), (), [("a",)] * 8), [])

    def test_of_the_fewest_goings_of_each(self):
        for heap, ties, seen in drawn_seen(151, 60, most=5, most_seen=4, longest=6):
            row = self.check(heap, ties, seen)
            for book in heap:
                self.assertEqual(row.count(book), fewest_through(heap, ties, seen, book))

    def test_eight_heaps_of_twelve_books(self):
        for heap, ties, seen in drawn_seen(152, 60, least=12, longest=60):
            self.check(heap, ties, seen)
        heap = tuple(BOOKS)
        self.check(heap, (), [heap[turn:] + heap[:turn] for turn in range(1, 9)])
        line = tuple(zip(BOOKS, BOOKS[1:]))
        self.check(heap, line, [heap[::-1], heap] * 4)

    def test_the_same_heap_seen_again_takes_no_goings(self):
        for heap, ties, seen in drawn_seen(153, 30, most_seen=3):
            twice = [each for each in seen for _ in range(2)]
            self.assertEqual(len(history(heap, ties, twice)), len(history(heap, ties, seen)))

    def test_gaps(self):
        places = set()
        for heap, ties, seen, place in drawn_gaps(154, 80):
            places.add(place)
            self.check_gap(heap, ties, seen, place)
        self.assertEqual(places, {0, 1, 2, 3})

    def test_against_a_plain_search(self):
        draw = random.Random(155)
        places = set()
        for heap, ties in drawn_heaps(155, 150, least=3, most=5):
            seen = [tuple(draw.sample(heap, len(heap))) for _ in range(draw.randint(1, 3))]
            gaps = [at for at, other in enumerate(seen) if other not in led_to(([heap] + seen)[at], ties)]
            places.add(gaps[0] if gaps else None)
            if gaps:
                self.check_gap(heap, ties, seen, gaps[0])
            else:
                self.check(heap, ties, seen)
        self.assertEqual(places, {None, 0, 1, 2})

    def test_the_last_of_eight(self):
        heap, other = ("a", "b", "c"), ("c", "b", "a")
        self.check_gap(heap, RING, [heap, ("c", "a", "b")] * 3 + [heap, other], 7)


class Unlikes(unittest.TestCase):
    def test_history(self):
        for heap, other in UNLIKE:
            for seen in ([other], [heap, other], [other, heap], [heap] * 7 + [other], (list(heap), list(other))):
                with self.assertRaises(Unlike):
                    history(heap, (), seen)

    def test_seen_alike_but_not_to_the_heap(self):
        for heap, other in UNLIKE:
            with self.assertRaises(Unlike):
                history(heap, (), [other, other])

    def test_ahead_of_gaps(self):
        heap, barred = ("a", "b", "c"), ("c", "b", "a")
        for unlike in (("a", "b"), ("a", "b", "c", "d"), ("a", "b", "d")):
            for seen in ([barred, unlike], [unlike, barred], [barred] + [heap] * 6 + [unlike], [heap, barred, unlike]):
                with self.assertRaises(Unlike):
                    history(heap, RING, seen)

    def test_in_order(self):
        for heap, other in UNLIKE:
            for seen in ([heap, other], [other, heap], [heap] * 7 + [other], (list(heap), list(other), heap)):
                with self.assertRaises(Unlike):
                    in_order((), seen)

    def test_ahead_of_apart(self):
        for seen in ([*APART, ("a", "b")], [("a", "b"), *APART], [APART[0], APART[0][:-1] + ("z",), APART[1]]):
            with self.assertRaises(Unlike):
                in_order(TWO_RINGS, seen)


# Each of the two rings is greater in one of the heaps.
TWO_RINGS = tuple(sorted(round_ties(["a", "b", "c"]) + round_ties(["d", "e", "f"])))
APART = (("a", "b", "c", "f", "e", "d"), ("c", "b", "a", "d", "e", "f"))


def led_table(ties, seen):
    """A plain look at all pairs of places."""
    led = {each: led_to(each, ties) for each in set(seen)}
    return [[other in led[one] for other in seen] for one in seen]


def table_by_rings(ties, seen, rings):
    """Of heaps whose only rings these are."""
    return [[all(number_of(other, ring) <= number_of(one, ring) for ring in rings) for other in seen] for one in seen]


def expected_order(table):
    """The first of all orders, which come rising, or the first pair that's apart."""
    for order in itertools.permutations(range(len(table))):
        if all(table[one][other] for one, other in zip(order, order[1:])):
            return list(order)
    for one, other in itertools.permutations(range(len(table)), 2):
        if not table[one][other] and not table[other][one]:
            return one, other
    raise AssertionError("neither an order nor a pair")


class InOrder(unittest.TestCase):
    def check(self, ties, seen, table):
        told = expected_order(table)
        if isinstance(told, list):
            self.assertEqual(repr(in_order(ties, seen)), repr(told))
        else:
            with self.assertRaises(Apart) as held:
                in_order(ties, seen)
            self.assertEqual(repr((held.exception.one, held.exception.other)), repr(told))
        return type(told)

    def test_told(self):
        high, low, lower = ("c", "b", "a"), ("a", "b", "c"), ("c", "a", "b")
        self.assertEqual(in_order(RING, [low, high]), [1, 0])
        self.assertEqual(in_order(RING, [high, low]), [0, 1])
        self.assertEqual(in_order(RING, [low, high, lower, high]), [1, 3, 0, 2])
        with self.assertRaises(Apart) as held:
            in_order(TWO_RINGS, APART)
        self.assertEqual((held.exception.one, held.exception.other), (0, 1))

    def test_of_none_and_of_one(self):
        for ties in ((), RING, []):
            self.assertEqual(repr(in_order(ties, [])), "[]")
            self.assertEqual(repr(in_order(ties, ())), "[]")
            self.assertEqual(repr(in_order(ties, [("c", "a", "b")])), "[0]")

    def test_the_same_heap_several_times(self):
        for heap, ties in drawn_heaps(156, 20):
            for many in range(1, 9):
                self.assertEqual(in_order(ties, [heap] * many), list(range(many)))

    def test_without_rings_all_stay_as_they_are(self):
        draw = random.Random(157)
        line = tuple(zip(BOOKS, BOOKS[1:]))
        for ties in ((), line):
            seen = [tuple(draw.sample(BOOKS, 12)) for _ in range(8)]
            self.assertEqual(in_order(ties, seen), list(range(8)))

    def test_against_all_orders(self):
        draw = random.Random(158)
        kinds = collections.Counter()
        for heap, ties in drawn_heaps(158, 120, least=3, most=5):
            seen = [tuple(draw.sample(heap, len(heap))) for _ in range(draw.randint(2, 5))]
            kinds[self.check(ties, seen, led_table(ties, seen))] += 1
        self.assertGreater(min(kinds[list], kinds[tuple]), 20)

    def test_heaps_of_one_history_in_a_lost_order(self):
        draw = random.Random(159)
        changed = 0
        # Of a ring more lie above in the heap with which the history begins than in one that's drawn beside it.
        for _, heap, ties in drawn_barred(159, 120, least=3, most=5):
            seen = [heap] + seen_from(draw, heap, ties, draw.randint(1, 4), longest=6)
            lost = draw.sample(seen, len(seen))
            told = in_order(ties, lost)
            self.assertEqual(self.check(ties, lost, led_table(ties, lost)), list)
            changed += told != list(range(len(lost)))
        self.assertGreater(changed, 20)

    def test_eight_heaps_of_twelve_books(self):
        draw = random.Random(160)
        kinds = collections.Counter()
        for _ in range(25):
            books = drawn_heap(draw, 12)
            ring = list(books[:draw.randint(3, 12)])
            seen = [tuple(draw.sample(books, 12)) for _ in range(8)]
            kinds[self.check(round_ties(ring), seen, table_by_rings(round_ties(ring), seen, [ring]))] += 1
        for _ in range(25):
            books = drawn_heap(draw, 12)
            rings = [list(books[:6]), list(books[6:])]
            ties = tuple(sorted(round_ties(rings[0]) + round_ties(rings[1])))
            seen = [tuple(draw.sample(books, 12)) for _ in range(draw.randint(2, 8))]
            kinds[self.check(ties, seen, table_by_rings(ties, seen, rings))] += 1
        self.assertGreater(kinds[list], 25)
        self.assertGreater(kinds[tuple], 10)

    def test_a_later_pair_apart(self):
        both = ("c", "b", "a", "f", "e", "d")
        for seen, pair in (
            ([both, *APART], (1, 2)), ([APART[0], both, APART[1]], (0, 2)), ([both] * 6 + [*APART], (6, 7)),
            ([both, APART[0], APART[0], APART[1]], (1, 3)), ([APART[1], both, both, APART[0], APART[0]], (0, 3)),
        ):
            with self.assertRaises(Apart) as held:
                in_order(TWO_RINGS, seen)
            self.assertEqual((held.exception.one, held.exception.other), pair)

    def test_an_order_has_a_history(self):
        for heap, ties, seen in drawn_seen(161, 40):
            order = in_order(ties, seen[::-1])
            if order:
                first, *others = [seen[::-1][place] for place in order]
                row = history(first, ties, others)
                self.assertIsNone(refused_place(first, ties, row))
                self.assertTrue(leads_through(first, row, others))


class Asking(unittest.TestCase):
    def test_history(self):
        for heap, ties, seen in drawn_seen(162, 25):
            check_asking(self, history, {"heap": heap, "ties": ties, "seen": seen})
        for heap, ties, seen, _ in drawn_gaps(163, 10):
            check_asking(self, history, {"heap": heap, "ties": ties, "seen": seen})

    def test_in_order(self):
        draw = random.Random(164)
        for heap, ties, seen in drawn_seen(164, 25):
            check_asking(self, in_order, {"ties": ties, "seen": draw.sample(seen, len(seen))})
        check_asking(self, in_order, {"ties": TWO_RINGS, "seen": list(APART)})

    def test_unlike(self):
        for heap, other in UNLIKE:
            check_asking(self, history, {"heap": heap, "ties": (), "seen": [heap, other]})
            check_asking(self, in_order, {"ties": (), "seen": [heap, other]})

    def test_ties_of_twelve(self):
        draw = random.Random(165)
        heap = drawn_heap(draw, 12)
        ties = drawn_ties(draw, heap)
        check_asking(self, in_order, {"ties": ties, "seen": [heap] * 8})


if __name__ == "__main__":
    unittest.main()
