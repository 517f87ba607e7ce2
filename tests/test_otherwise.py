"""[18]: heaps and ties called otherwise, turned about, put on one another, and of some books only."""

import itertools
import random
import unittest

from heapfriends.errors import Shared
from heapfriends.heaps import is_heap, is_ties
from heapfriends.laying import may_go
from heapfriends.otherwise import called, only, piled, turned
from helper import BOOKS, all_ties, check_asking, drawn_heaps, drawn_ties, outcome

OTHER_NAMES = ("z", "zz", "zza", "yes", "y", "x", "wwwwww", "w", "v", "u", "t", "s")


def drawn_names(draw, heap):
    """A dict to other names, to the same ones exchanged, or to some of both."""
    names = draw.choice((OTHER_NAMES, heap, heap + OTHER_NAMES))
    return dict(zip(heap, draw.sample(names, len(heap))))


class Told(unittest.TestCase):
    def check_pair(self, told):
        self.assertIs(type(told), tuple)
        heap, ties = told
        self.assertIs(is_heap(heap), True)
        self.assertIs(is_ties(heap, ties), True)
        return told


class Called(Told):
    def test_told(self):
        heap, ties = ("b", "a", "c"), (("a", "b"), ("b", "c"))
        for names, told in (
            ({"a": "x", "b": "y", "c": "z"}, (("y", "x", "z"), (("x", "y"), ("y", "z")))),
            ({"a": "z", "b": "y", "c": "x"}, (("y", "z", "x"), (("y", "x"), ("z", "y")))),
            ({"a": "b", "b": "a", "c": "c"}, (("a", "b", "c"), (("a", "c"), ("b", "a")))),
            ({"a": "b", "b": "c", "c": "a"}, (("c", "b", "a"), (("b", "c"), ("c", "a")))),
            ({"a": "a", "b": "b", "c": "c"}, (heap, ties)),
        ):
            self.assertEqual(repr(called(heap, ties, names)), repr(told))

    def test_one_book(self):
        self.assertEqual(repr(called(["a"], [], {"a": "folder"})), repr((("folder",), ())))

    def test_each_by_its_name(self):
        draw = random.Random(191)
        for heap, ties in drawn_heaps(191, 100):
            names = drawn_names(draw, heap)
            told, tied = self.check_pair(called(heap, ties, names))
            self.assertEqual(told, tuple(names[book] for book in heap))
            self.assertEqual(tied, tuple(sorted((names[book], names[friend]) for book, friend in ties)))
            self.assertEqual(may_go(told, tied), sorted(names[book] for book in may_go(heap, ties)))

    def test_back_by_the_names_turned_about(self):
        draw = random.Random(192)
        for heap, ties in drawn_heaps(192, 50):
            names = drawn_names(draw, heap)
            back = {name: book for book, name in names.items()}
            self.assertEqual(called(*called(heap, ties, names), back), (heap, ties))

    def test_names_are_not_changed(self):
        names = {"b": "a", "a": "b"}
        called(("a", "b"), (("a", "b"),), names)
        self.assertEqual(list(names.items()), [("b", "a"), ("a", "b")])


class Turned(Told):
    def test_told(self):
        self.assertEqual(turned((("a", "b"), ("a", "c"), ("c", "b"))), (("b", "a"), ("b", "c"), ("c", "a")))
        self.assertEqual(repr(turned(())), "()")
        self.assertEqual(repr(turned([])), "()")
        self.assertEqual(repr(turned([["a", "b"]])), repr((("b", "a"),)))

    def test_all_ties_of_three_books(self):
        for ties in all_ties(("a", "b", "c")):
            self.assertEqual(repr(turned(ties)), repr(tuple(sorted(pair[::-1] for pair in ties))))

    def test_twice_as_ahead(self):
        for heap, ties in drawn_heaps(193, 60):
            told = turned(ties)
            self.assertIs(is_ties(heap, told), True)
            self.assertEqual({pair[::-1] for pair in told}, set(ties))
            self.assertEqual(repr(turned(told)), repr(ties))


class Piled(Told):
    def test_told(self):
        upper, lower = (("b", "d"), (("d", "b"),)), (("c", "a"), (("a", "c"), ("c", "a")))
        self.assertEqual(piled(upper, lower), (("b", "d", "c", "a"), (("a", "c"), ("c", "a"), ("d", "b"))))
        self.assertEqual(piled(lower, upper), (("c", "a", "b", "d"), (("a", "c"), ("c", "a"), ("d", "b"))))
        self.assertEqual(piled((("a",), ()), (("b",), ())), (("a", "b"), ()))

    def test_any_heaps(self):
        draw = random.Random(194)
        for _ in range(100):
            books = draw.sample(BOOKS + OTHER_NAMES, draw.randint(2, 24))
            cut = draw.randint(max(1, len(books) - 12), min(12, len(books) - 1))
            upper = (tuple(books[:cut]), drawn_ties(draw, books[:cut]))
            lower = (tuple(books[cut:]), drawn_ties(draw, books[cut:]))
            heap, ties = self.check_pair(piled(upper, lower))
            self.assertEqual(heap, tuple(books))
            self.assertEqual(set(ties), {*upper[1], *lower[1]})

    def test_shared(self):
        for upper, lower, book in (
            (("a",), ("a",), "a"), (("b", "a"), ("b", "a"), "a"), (("c", "b"), ("a", "b", "c"), "b"),
            (("z", "y"), ("y", "x"), "y"), (("ab", "b"), ("b", "a", "ab"), "ab"),
        ):
            for one, other in ((upper, lower), (list(upper), list(lower)), (lower, upper)):
                with self.assertRaises(Shared) as held:
                    piled((one, ()), (other, ()))
                self.assertEqual(held.exception.book, book)

    def test_the_least_shared_book(self):
        draw = random.Random(195)
        kinds = set()
        for _ in range(200):
            upper, lower = [tuple(draw.sample(BOOKS, draw.randint(1, 8))) for _ in range(2)]
            both = set(upper) & set(lower)
            told = outcome(piled, (upper, drawn_ties(draw, upper)), (lower, drawn_ties(draw, lower)))
            kinds.add(min(len(both), 3))
            if both:
                self.assertEqual(told, "refused Shared" + repr({"book": min(both)}))
            else:
                self.assertTrue(told.startswith("told"))
        self.assertEqual(kinds, {0, 1, 2, 3})


class Only(Told):
    def test_told(self):
        heap, ties = ("c", "a", "b", "d"), (("a", "b"), ("a", "c"), ("c", "d"), ("d", "a"))
        for books, told in (
            (["a"], (("a",), ())), (["a", "b"], (("a", "b"), (("a", "b"),))),
            (["d", "c", "a"], (("c", "a", "d"), (("a", "c"), ("c", "d"), ("d", "a")))),
            (["b", "d"], (("b", "d"), ())), (["d", "b", "a", "c"], (heap, ties)),
        ):
            self.assertEqual(repr(only(heap, ties, books)), repr(told))

    def test_in_the_heaps_order_whatever_the_order_of_books(self):
        for heap, ties in drawn_heaps(196, 15, least=4, most=6):
            for many in range(1, 5):
                for books in itertools.permutations(heap[-4:], many):
                    told, tied = self.check_pair(only(heap, ties, list(books)))
                    self.assertEqual(told, tuple(sorted(books, key=heap.index)))
                    self.assertEqual(tied, tuple(pair for pair in ties if set(pair) <= set(books)))

    def test_parts_of_a_piled_heap(self):
        draw = random.Random(197)
        for _ in range(40):
            books = draw.sample(BOOKS, draw.randint(2, 12))
            cut = draw.randint(1, len(books) - 1)
            upper = (tuple(books[:cut]), drawn_ties(draw, books[:cut]))
            lower = (tuple(books[cut:]), drawn_ties(draw, books[cut:]))
            heap, ties = piled(upper, lower)
            self.assertEqual(only(heap, ties, draw.sample(upper[0], cut)), upper)
            self.assertEqual(only(heap, ties, lower[0][::-1]), lower)


class Asking(unittest.TestCase):
    def test_asking(self):
        draw = random.Random(198)
        for heap, ties in drawn_heaps(198, 25):
            check_asking(self, called, {"heap": heap, "ties": ties, "names": drawn_names(draw, heap)})
            check_asking(self, turned, {"ties": ties})
            books = draw.sample(heap, draw.randint(1, len(heap)))
            check_asking(self, only, {"heap": heap, "ties": ties, "books": books})
            lower = (OTHER_NAMES, drawn_ties(draw, OTHER_NAMES))
            check_asking(self, piled, {"upper": (heap, ties), "lower": lower})
            check_asking(self, piled, {"upper": (heap, ties), "lower": (heap[:1], ())})


if __name__ == "__main__":
    unittest.main()
