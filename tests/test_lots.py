"""[12] and [1] (c): lots of heaps that lead to one another, and readings of ties."""

import itertools
import random
import unittest

from heapfriends.errors import Unlike
from heapfriends.lots import alike, lots_of, reading
from helper import (
    BOOKS, UNLIKE, all_ties, check_asking, check_unlike, drawn_heap, drawn_heaps, drawn_led, drawn_pairs, drawn_ties,
    knots_by_trial, led_to, number_of, rings_by_trial, round_ties,
)


def all_ways(ties, knot):
    """All ways without a book twice from the knot's least book."""
    ways = [[knot[0]]]
    for way in ways:
        ways += [way + [friend] for fan, friend in ties if fan == way[-1] and friend in knot and friend not in way]
    return ways


def layered_ways(ties, knot):
    """The first of the shortest ways to each book, without telling all ways of a great knot."""
    ways = {knot[0]: [knot[0]]}
    while len(ways) < len(knot):
        further = {}
        for fan, friend in ties:
            if fan in ways and friend in knot and friend not in ways:
                further[friend] = min(further.get(friend, ways[fan] + [friend]), ways[fan] + [friend])
        ways.update(further)
    return list(ways.values())


def reading_told(heap, ties, ways_of):
    found = []
    for knot in knots_by_trial(ties):
        ways = ways_of(ties, knot)
        height = {}
        for book in knot:
            way = min((way for way in ways if way[-1] == book), key=lambda way: (len(way), way))
            height[book] = sum(heap.index(friend) < heap.index(fan) for fan, friend in zip(way, way[1:]))
        for book, friend in ties:
            if book in knot and friend in knot:
                above = heap.index(friend) < heap.index(book)
                found.append((book, friend, height[book] - height[friend] + above))
    return sorted(found)


def drawn_alike(seed, many):
    """Triples (heap, other, ties) of twelve books, several of which are alike."""
    for heap, other, ties, _ in drawn_led(seed, many, least=12, longest=3):
        yield heap, other, ties
    yield from drawn_pairs(seed, many, least=12)


class Alike(unittest.TestCase):
    def test_told(self):
        ties = round_ties(["a", "b", "c"])
        self.assertIs(alike(("a", "b", "c"), ("c", "a", "b"), ties), True)
        self.assertIs(alike(("a", "b", "c"), ("c", "b", "a"), ties), False)
        self.assertIs(alike(("c", "b", "a"), ("a", "b", "c"), ties), False)
        self.assertIs(alike(("a", "b"), ("b", "a"), ()), True)
        self.assertIs(alike(("a",), ("a",), ()), True)

    def check_all_pairs(self, books, ties):
        heaps = list(itertools.permutations(books))
        led = {heap: led_to(heap, ties) for heap in heaps}
        read = {heap: reading(heap, ties) for heap in heaps}
        for heap in heaps:
            for other in heaps:
                both = other in led[heap] and heap in led[other]
                self.assertIs(alike(heap, other, ties), both)
                self.assertEqual(read[heap] == read[other], both)

    def test_all_ties_of_one_to_three_books(self):
        for many in (1, 2, 3):
            for ties in all_ties(("a", "b", "c")[:many]):
                self.check_all_pairs(("a", "b", "c")[:many], ties)

    def test_four_books(self):
        for heap, ties in drawn_heaps(110, 30, least=4, most=4):
            self.check_all_pairs(heap, ties)

    def test_five_books(self):
        draw = random.Random(111)
        for share in (6, 9, 14):
            heap = drawn_heap(draw, 5)
            ties = tuple(sorted(draw.sample(list(itertools.permutations(heap, 2)), share)))
            self.check_all_pairs(heap, ties)

    def test_all_ties_of_four_books_by_their_rings(self):
        heaps = list(itertools.permutations("abcd"))
        for at, ties in enumerate(all_ties(("a", "b", "c", "d"))):
            if at % 9 == 4:
                found = rings_by_trial(ties)
                numbers = {heap: tuple(number_of(heap, ring) for ring in found) for heap in heaps}
                readings = {heap: tuple(reading(heap, ties)) for heap in heaps}
                pairs = {(numbers[heap], readings[heap]) for heap in heaps}
                self.assertEqual(len(set(numbers.values())), len(pairs))
                self.assertEqual(len(set(readings.values())), len(pairs))

    def test_twelve_books(self):
        told = set()
        for heap, other, ties in drawn_alike(112, 80):
            same = reading_told(heap, ties, layered_ways) == reading_told(other, ties, layered_ways)
            self.assertIs(alike(heap, other, ties), same)
            told.add(same)
        self.assertEqual(told, {False, True})

    def test_unlike_heaps(self):
        check_unlike(self, alike)

    def test_asking(self):
        for heap, other, ties in list(drawn_pairs(113, 20)) + list(drawn_alike(114, 8)):
            check_asking(self, alike, {"heap": heap, "other": other, "ties": ties})
        for heap, other in UNLIKE:
            check_asking(self, alike, {"heap": heap, "other": other, "ties": ()})


class LotsOf(unittest.TestCase):
    def test_told(self):
        ties = round_ties(["a", "b", "c"])
        heaps = [("a", "b", "c"), ("c", "b", "a"), ("c", "a", "b"), ("b", "a", "c"), ("a", "b", "c")]
        self.assertEqual(lots_of(heaps, ties), [[0, 2, 4], [1, 3]])
        self.assertEqual(lots_of(heaps[1:], ties), [[0, 2], [1, 3]])
        self.assertEqual(lots_of(heaps, ()), [[0, 1, 2, 3, 4]])

    def test_none_and_one(self):
        for heaps in ([], ()):
            self.assertEqual(repr(lots_of(heaps, ())), "[]")
        for heap, ties in drawn_heaps(115, 20):
            self.assertEqual(repr(lots_of([heap], ties)), "[[0]]")

    def test_the_same_heap_several_times(self):
        for heap, ties in drawn_heaps(116, 20):
            self.assertEqual(lots_of([heap, list(heap), heap], ties), [[0, 1, 2]])

    def check_by_search(self, heaps, ties):
        led = {heap: led_to(heap, ties) for heap in set(heaps)}
        lots = []
        for place, heap in enumerate(heaps):
            for lot in lots:
                first = heaps[lot[0]]
                if heap in led[first] and first in led[heap]:
                    lot.append(place)
                    break
            else:
                lots.append([place])
        self.assertEqual(repr(lots_of(heaps, ties)), repr(lots))

    def test_against_a_plain_search(self):
        draw = random.Random(117)
        for heap, ties in drawn_heaps(117, 40, most=4):
            heaps = [tuple(draw.sample(heap, len(heap))) for _ in range(draw.randint(0, 30))]
            self.check_by_search(heaps, ties)

    def test_120_heaps_of_five_books(self):
        draw = random.Random(118)
        for share in (5, 8, 12):
            heap = drawn_heap(draw, 5)
            ties = tuple(sorted(draw.sample(list(itertools.permutations(heap, 2)), share)))
            heaps = draw.sample(list(itertools.permutations(heap)), 120)
            self.check_by_search(heaps, ties)

    def test_120_heaps_of_twelve_books(self):
        draw = random.Random(119)
        for share in (14, 30, 132):
            ties = tuple(sorted(draw.sample(list(itertools.permutations(BOOKS, 2)), share)))
            heaps = [drawn_heap(draw, 12) for _ in range(60)]
            # Of a heap the one with its lowest book laid on top is led to; what lies beneath is often alike.
            heaps += [heap[-1:] + heap[:-1] for heap in heaps]
            told = lots_of(heaps, ties)
            self.assertEqual(sorted(place for lot in told for place in lot), list(range(120)))
            self.assertEqual(told, sorted(sorted(lot) for lot in told))
            readings = [[reading_told(heaps[place], ties, layered_ways) for place in lot] for lot in told]
            self.assertTrue(all(read == lot[0] for lot in readings for read in lot))
            self.assertEqual(len({tuple(lot[0]) for lot in readings}), len(told))

    def test_unlike_heaps(self):
        for heap, other in UNLIKE:
            for heaps in ([heap, other], [heap, heap, other], [heap, other, heap], (list(other), heap)):
                for ties in ((), tuple(itertools.permutations(sorted(heap), 2))):
                    with self.assertRaises(Unlike):
                        lots_of(heaps, ties)
        with self.assertRaises(Unlike):
            lots_of([BOOKS] * 119 + [BOOKS[1:] + ("zz",)], ())

    def test_asking(self):
        draw = random.Random(120)
        for heap, ties in drawn_heaps(120, 25, most=6):
            heaps = [tuple(draw.sample(heap, len(heap))) for _ in range(draw.randint(0, 8))]
            check_asking(self, lots_of, {"heaps": heaps, "ties": ties})
        check_asking(self, lots_of, {"heaps": list(UNLIKE[0]), "ties": ()})


class Reading(unittest.TestCase):
    def test_told(self):
        ties = (("a", "b"), ("b", "a"), ("b", "c"), ("c", "a"), ("d", "a"))
        tree = [("a", "b", 0), ("b", "a", 1), ("b", "c", 0)]
        self.assertEqual(reading(("a", "b", "c", "d"), ties), tree + [("c", "a", 1)])
        self.assertEqual(reading(("c", "b", "a", "d"), ties), tree + [("c", "a", 2)])
        self.assertEqual(reading(("b", "a"), (("a", "b"), ("b", "a"))), [("a", "b", 0), ("b", "a", 1)])

    def test_of_several_shortest_ways_the_first(self):
        # d is come to by b and by c; by b, though c's way would tell another height.
        ties = (("a", "b"), ("a", "c"), ("b", "d"), ("c", "d"), ("d", "a"))
        told = reading(("d", "b", "a", "c"), ties)
        self.assertEqual(told, [("a", "b", 0), ("a", "c", 0), ("b", "d", 0), ("c", "d", -1), ("d", "a", 2)])

    def test_a_shorter_way_ahead_of_an_earlier_one(self):
        # Rising lists would take b first; the way by z is shorter.
        ties = (("a", "b"), ("a", "z"), ("b", "c"), ("c", "d"), ("d", "a"), ("z", "d"))
        told = reading(("d", "c", "b", "a", "z"), ties)
        self.assertEqual(dict(((book, friend), number) for book, friend, number in told)[("z", "d")], 0)
        self.assertEqual(dict(((book, friend), number) for book, friend, number in told)[("c", "d")], 2)

    def test_without_knots(self):
        for ties in ((), (("a", "b"),), (("a", "b"), ("a", "c"), ("b", "c")), (("b", "a"), ("c", "a"))):
            for heap in itertools.permutations("abc"):
                self.assertEqual(repr(reading(heap, ties)), "[]")

    def test_all_ties_of_three_books(self):
        for ties in all_ties(("a", "b", "c")):
            for heap in itertools.permutations("abc"):
                self.assertEqual(repr(reading(heap, ties)), repr(reading_told(heap, ties, all_ways)))

    def test_by_all_ways(self):
        for heap, ties in drawn_heaps(121, 200, least=4, most=6):
            self.assertEqual(repr(reading(heap, ties)), repr(reading_told(heap, ties, all_ways)))

    def test_twelve_books(self):
        for heap, ties in drawn_heaps(122, 120, least=12):
            self.assertEqual(repr(reading(heap, ties)), repr(reading_told(heap, ties, layered_ways)))

    def test_several_knots(self):
        draw = random.Random(123)
        for _ in range(60):
            heap = drawn_heap(draw, 12)
            ties = set(draw.sample(list(itertools.permutations(heap, 2)), 3))
            for knot in (heap[:5], heap[5:9], heap[9:]):
                ties |= set(round_ties(draw.sample(knot, len(knot)))) | set(drawn_ties(draw, knot))
            ties = tuple(sorted(ties))
            lain = tuple(draw.sample(heap, 12))
            self.assertEqual(repr(reading(lain, ties)), repr(reading_told(lain, ties, layered_ways)))

    def test_asking(self):
        for heap, ties in drawn_heaps(124, 40):
            check_asking(self, reading, {"heap": heap, "ties": ties})


if __name__ == "__main__":
    unittest.main()
