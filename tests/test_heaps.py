"""[4]: heaps and ties."""

import itertools
import re
import string
import unittest

from heapfriends.heaps import fans_of, friends_of, is_heap, is_ties, lies_above
from helper import BOOKS, SHOWN_ODD, all_ties, check_asking, drawn_heaps, nest, variants


def is_name_told(thing):
    return type(thing) is str and re.fullmatch("[a-z]{1,6}", thing) is not None


def is_heap_told(thing):
    if type(thing) is not tuple or not thing:
        return False
    return all(is_name_told(book) for book in thing) and len(set(thing)) == len(thing)


def is_ties_told(heap, thing):
    if type(thing) is not tuple:
        return False
    for pair in thing:
        if type(pair) is not tuple or len(pair) != 2 or not all(type(book) is str for book in pair):
            return False
        if pair[0] == pair[1] or not set(pair) <= set(heap):
            return False
    return list(thing) == sorted(set(thing))


class IsHeap(unittest.TestCase):
    def test_heaps(self):
        for thing in (("a",), ("b", "a"), ("z", "abcdef", "y"), BOOKS, tuple(string.ascii_lowercase)):
            self.assertIs(is_heap(thing), True)

    def test_no_heaps(self):
        for thing in ((), [], ["a"], ["a", "b"], "a", "ab", ("a", "a"), ("a", "b", "a"), ("a", ("b",)), ("a", ["b"]),
                      (("a",),), ("a", 1), ("a", None), (True,), None, True, False, 0, 1):
            self.assertIs(is_heap(thing), False, thing)

    def test_names(self):
        for name in ("a", "z", "abcdef", "zzzzzz", "az"):
            self.assertIs(is_heap((name,)), True)
            self.assertIs(is_heap(("other", name)), True)
        for name in ("", "abcdefg", "A", "aB", "Ab", "a1", "1", "a b", " a", "a ", "a\n", "\n", "a-", "_", "`", "{",
                     "@", "[", "\u00e9", "\u00aa", "\u0430", "\u00df", "\u0131", "\uff41", "e\u0301", "\U0001d41a"):
            self.assertIs(is_heap((name,)), False, name)
            self.assertIs(is_heap(("other", name)), False, name)

    def test_more_than_twelve_books(self):
        names = tuple("".join(letters) for letters in itertools.product(string.ascii_lowercase, repeat=3))
        self.assertIs(is_heap(names), True)
        self.assertIs(is_heap(names + ("aaa",)), False)
        self.assertIs(is_heap(names + (["aaaa"],)), False)

    def test_things_of_every_kind(self):
        for whole in (("a",), ("a", "b"), ("bell", "abcdef", "a")):
            for thing in variants(whole):
                self.assertIs(is_heap(thing), is_heap_told(thing))

    def test_every_depth(self):
        for depth in range(1, 9):
            self.assertIs(is_heap(nest(tuple, "a", depth)), depth == 1)
            self.assertIs(is_heap(nest(list, "a", depth)), False)

    def test_asking(self):
        for thing in [("a",), ("b", "a"), BOOKS] + SHOWN_ODD:
            check_asking(self, is_heap, {"thing": thing})


class IsTies(unittest.TestCase):
    heap = ("b", "a", "c")

    def test_ties(self):
        for thing in ((), (("a", "b"),), (("a", "b"), ("a", "c")), (("a", "b"), ("b", "a"), ("c", "a"))):
            self.assertIs(is_ties(self.heap, thing), True)

    def test_all_ties_of_three_books(self):
        for ties in all_ties(self.heap):
            self.assertIs(is_ties(self.heap, ties), True)
            self.assertIs(is_ties(self.heap, list(ties)), False)
            self.assertIs(is_ties(self.heap, ties[::-1]), len(ties) < 2)

    def test_no_ties(self):
        for thing in (
            (("a", "c"), ("a", "b")), (("b", "a"), ("a", "b")), (("a", "b"), ("a", "b")), (("a", "a"),),
            (("a", "b"), ("b", "b")), (("a", "d"),), (("d", "a"),), (("d", "e"),), (("a",),), (("a", "b", "c"),),
            ((),), ("a", "b"), (["a", "b"],), [("a", "b")], [], "ab", ("ab",), (("a", "b"), ["a", "c"]),
            (("a", "b"), "ac"), (("a", 1),), ((1, 2),), ((None, "a"),), (("a", ["b"]),), ((("a",), "b"),),
            (("a", "b"), 1), (("a", "b"), None), None, True, False, 0, 1, ((True, False),), (("a", "B"),),
        ):
            self.assertIs(is_ties(self.heap, thing), False, thing)

    def test_the_heap_as_a_list(self):
        for thing in ((), (("a", "b"),), (("a", "b"), ("c", "a")), (("a", "d"),), [], (["a", "b"],)):
            self.assertIs(is_ties(list(self.heap), thing), is_ties_told(self.heap, thing))

    def test_one_book(self):
        self.assertIs(is_ties(("a",), ()), True)
        self.assertIs(is_ties(("a",), (("a", "a"),)), False)
        self.assertIs(is_ties(("a",), (("a", "b"),)), False)

    def test_more_than_twelve_books(self):
        heap = tuple(string.ascii_lowercase)
        ties = tuple(itertools.permutations(heap, 2))
        self.assertIs(is_ties(heap, ties), True)
        self.assertIs(is_ties(heap, ties + ties[-1:]), False)
        self.assertIs(is_ties(heap[1:], ties), False)

    def test_things_of_every_kind(self):
        for whole in ((), (("a", "b"),), (("a", "c"), ("b", "a"), ("c", "b"))):
            for thing in variants(whole):
                self.assertIs(is_ties(self.heap, thing), is_ties_told(self.heap, thing))

    def test_drawn(self):
        for heap, ties in drawn_heaps(1, 30):
            for thing in (ties, ties[::-1], list(ties), ties + ties[:1], ties + ((heap[0], heap[0]),)):
                self.assertIs(is_ties(heap, thing), is_ties_told(heap, thing))

    def test_asking(self):
        for thing in [(), (("a", "b"),), (("a", "b"), ("c", "a"))] + SHOWN_ODD:
            check_asking(self, is_ties, {"heap": self.heap, "thing": thing})


class LiesAbove(unittest.TestCase):
    def test_each_two_books(self):
        for many in range(2, 13):
            for heap in (BOOKS[:many], BOOKS[:many][::-1]):
                for one, other in itertools.combinations(heap, 2):
                    self.assertIs(lies_above(heap, one, other), True)
                    self.assertIs(lies_above(heap, other, one), False)

    def test_asking(self):
        for heap, _ in drawn_heaps(2, 12, least=2):
            for one, other in itertools.permutations(heap[:4], 2):
                check_asking(self, lies_above, {"heap": heap, "one": one, "other": other})


class FriendsAndFans(unittest.TestCase):
    ties = (("a", "b"), ("a", "c"), ("b", "a"), ("d", "a"))

    def test_friends(self):
        self.assertEqual(friends_of(self.ties, "a"), ["b", "c"])
        self.assertEqual(friends_of(self.ties, "b"), ["a"])
        self.assertEqual(friends_of(self.ties, "c"), [])
        self.assertEqual(friends_of((), "a"), [])

    def test_fans(self):
        self.assertEqual(fans_of(self.ties, "a"), ["b", "d"])
        self.assertEqual(fans_of(self.ties, "c"), ["a"])
        self.assertEqual(fans_of(self.ties, "d"), [])
        self.assertEqual(fans_of((), "a"), [])

    def test_each_book(self):
        for heap, ties in drawn_heaps(3, 60):
            for book in heap:
                friends = [other for other in sorted(heap) if (book, other) in ties]
                fans = [other for other in sorted(heap) if (other, book) in ties]
                self.assertEqual(repr(friends_of(ties, book)), repr(friends))
                self.assertEqual(repr(fans_of(ties, book)), repr(fans))

    def test_asking(self):
        for heap, ties in drawn_heaps(4, 20):
            for book in heap[:3]:
                check_asking(self, friends_of, {"ties": ties, "book": book})
                check_asking(self, fans_of, {"ties": ties, "book": book})


if __name__ == "__main__":
    unittest.main()
