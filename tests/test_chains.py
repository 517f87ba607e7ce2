"""[9] and [1] (b): chains, held link by link against the document's words."""

import itertools
import unittest

from heapfriends.chains import chain, shows_chain
from heapfriends.errors import Barred, NoBook, Unlike
from heapfriends.least import goings
from helper import (
    BOOKS, ODD, SHOWN_ODD, UNLIKE, all_ties, check_asking, check_barred, check_unlike, drawn_barred, drawn_heaps,
    drawn_led, drawn_pairs, fewest_from, variants,
)

NO_BOOKS = [thing for thing in ODD if not (type(thing) is str and thing in BOOKS)]


def is_pair(heap, thing):
    if type(thing) is not tuple or len(thing) != 2 or type(thing[0]) is not str or thing[0] not in heap:
        return False
    return type(thing[1]) is int and thing[1] >= 1


def is_first(heap, other, link):
    book, number = link
    lower = other[other.index(book) + 1:other.index(book) + 2]
    return number == 1 and any(heap.index(book) > heap.index(lain) for lain in lower)


def is_next(heap, other, ties, link, behind):
    (book, number), (friend, often) = link, behind
    if often == 1 and other.index(friend) < other.index(book):
        return True
    above = int(heap.index(friend) < heap.index(book)), int(other.index(friend) < other.index(book))
    return (book, friend) in ties and often == number - above[0] + above[1]


def is_chain(heap, other, ties, thing):
    if type(thing) is not list or not thing or not all(is_pair(heap, link) for link in thing):
        return False
    if not is_first(heap, other, thing[0]):
        return False
    return all(is_next(heap, other, ties, link, behind) for link, behind in zip(thing, thing[1:]))


class Chain(unittest.TestCase):
    def check_each_book(self, heap, other, ties, least):
        for book in heap:
            told = chain(heap, other, ties, book)
            if least[book] == 0:
                self.assertIsNone(told)
            else:
                self.assertTrue(is_chain(heap, other, ties, told))
                self.assertEqual(repr(told[-1]), repr((book, least[book])))
                self.assertIs(shows_chain(heap, other, ties, told), True)

    def check_all_led(self, heap, ties):
        alone = {book: fewest_from(heap, ties, book) for book in heap}
        for other in alone[heap[0]]:
            self.check_each_book(heap, other, ties, {book: alone[book][other] for book in heap})

    def test_told(self):
        self.assertEqual(chain(("a", "b"), ("b", "a"), (), "b"), [("b", 1)])
        self.assertIsNone(chain(("a", "b"), ("b", "a"), (), "a"))
        heap, other, ties = ("c", "a", "b"), ("b", "a", "c"), (("a", "b"),)
        self.assertEqual(chain(heap, other, ties, "b"), [("a", 1), ("b", 2)])
        self.assertEqual(chain(heap, other, ties, "a"), [("a", 1)])
        self.assertIsNone(chain(heap, other, ties, "c"))

    def test_all_ties_of_one_to_three_books(self):
        for heap in (("a",), ("b", "a"), ("a", "b", "c"), ("b", "c", "a")):
            for ties in all_ties(heap):
                self.check_all_led(heap, ties)

    def test_four_and_five_books(self):
        for heap, ties in drawn_heaps(70, 100, least=4, most=4):
            self.check_all_led(heap, ties)
        for heap, ties in drawn_heaps(71, 30, least=5, most=5):
            self.check_all_led(heap, ties)

    def test_twelve_books(self):
        for heap, other, ties, _ in drawn_led(72, 60, least=12, longest=200):
            self.check_each_book(heap, other, ties, dict(goings(heap, other, ties)))

    def test_many_goings(self):
        ties = tuple(zip(BOOKS, BOOKS[1:]))
        self.check_each_book(BOOKS, BOOKS[::-1], ties, dict(zip(BOOKS, range(12))))

    def test_none_of_the_same_heap(self):
        for heap, ties in drawn_heaps(73, 40):
            for book in heap:
                self.assertIsNone(chain(heap, list(heap), ties, book))


class ChainRefused(unittest.TestCase):
    def test_unlike_heaps_ahead_of_all(self):
        for book in ("a", "zz", None, ["a"]):
            check_unlike(self, chain, book)

    def test_where_it_is_not_led_there(self):
        for book in ("a", "zz", None, ["a"]):
            check_barred(self, chain, book)

    def test_no_book_of_the_heap(self):
        for heap, other, ties in ((("c", "d"), ("d", "c"), (("c", "d"),)), (BOOKS, BOOKS, ()), (["c"], ("c",), [])):
            for thing in NO_BOOKS:
                with self.assertRaises(NoBook) as held:
                    chain(heap, other, ties, thing)
                self.assertIs(held.exception.book, thing)

    def test_the_first_of_several_due(self):
        with self.assertRaises(Unlike):
            chain(("a", "b"), ("a", "c"), (), "zz")
        with self.assertRaises(Barred):
            chain(("a", "b", "c"), ("c", "b", "a"), (("a", "b"), ("b", "c"), ("c", "a")), "zz")
        with self.assertRaises(NoBook):
            chain(("a", "b", "c"), ("c", "b", "a"), (("a", "b"), ("b", "c")), "zz")


class ShowsChain(unittest.TestCase):
    heap, other, ties = ("c", "a", "d", "b"), ("b", "a", "d", "c"), (("a", "b"), ("b", "d"), ("d", "a"))
    whole = [("d", 1), ("a", 1), ("b", 2), ("d", 1)]

    def check(self, heap, other, ties, thing):
        self.assertIs(shows_chain(heap, other, ties, thing), is_chain(heap, other, ties, thing))

    def test_chains(self):
        heap, other, ties = ("c", "a", "b"), ("b", "a", "c"), (("a", "b"), ("b", "c"))
        for thing in (
            [("a", 1)], [("b", 1)], [("a", 1), ("b", 1)], [("a", 1), ("b", 2)], [("a", 1), ("b", 2), ("c", 1)],
            [("a", 1), ("b", 2), ("c", 1), ("a", 1)], [("a", 1), ("b", 2), ("c", 1), ("b", 1)],
        ):
            self.assertIs(shows_chain(heap, other, ties, thing), True, thing)

    def test_no_chains(self):
        heap, other, ties = ("c", "a", "b"), ("b", "a", "c"), (("a", "b"), ("b", "c"))
        for thing in (
            [], (("a", 1),), [("a", True)], [("a", 2)], [("a", 0)], [("a", -1)], [["a", 1]], [("c", 1)], [("d", 1)],
            ("a", 1), [("a", 1), ("c", 1)], [("a", 1), ("b", 3)], [("a", 1), ("b", True)],
            [("a", 1), ("b", 1), ("c", 0)], [("a", 1), ("b", 2), ("a", 1)], [("a", 1), ("b", 2), ("c", 2)],
            [("a", 1, 1)], [("a",)], [("a", "1")], [("a", 1), None], [(("a",), 1)], [(["a"], 1)], "a1", None, True, 1,
            [("a", 1), ("a", 1)], [("a", None)],
        ):
            self.assertIs(shows_chain(heap, other, ties, thing), False, thing)

    def test_none_of_the_same_heap(self):
        for book in self.heap:
            self.assertIs(shows_chain(self.heap, self.heap, self.ties, [(book, 1)]), False)

    def test_led_to_or_not(self):
        # Round a ring that grows a chain tells any number.
        heap, other, ties = ("a", "b", "c"), ("c", "b", "a"), (("a", "b"), ("b", "c"), ("c", "a"))
        thing = [("b", 1)]
        for number in range(2, 300):
            thing += [("c", number), ("a", number - 1), ("b", number)]
            self.assertIs(shows_chain(heap, other, ties, thing), True)
            self.assertIs(shows_chain(heap, other, ties, thing + [("c", number)]), False)

    def test_all_short_lists(self):
        for heap, other, ties in drawn_pairs(74, 60, least=2, most=3):
            links = [(book, number) for book in heap for number in (1, 2, 3)]
            for many in (1, 2, 3):
                for thing in itertools.product(links, repeat=many):
                    self.check(heap, other, ties, list(thing))

    def test_things_of_every_kind(self):
        for whole in (self.whole, self.whole[:1], [("b", 1)]):
            self.assertIs(shows_chain(self.heap, self.other, self.ties, whole), True)
            for thing in variants(whole):
                self.check(self.heap, self.other, self.ties, thing)

    def test_one_link_one_number_or_one_book_otherwise(self):
        for heap, other, ties, _ in drawn_led(75, 60, least=2):
            for book in heap:
                told = chain(heap, other, ties, book) or []
                for at, (here, number) in enumerate(told):
                    self.check(heap, other, ties, told[:at] + told[at + 1:])
                    for link in [(lain, number) for lain in heap] + [(here, number + more) for more in (-1, 1, 2)]:
                        self.check(heap, other, ties, told[:at] + [link] + told[at + 1:])

    def test_the_last_one_goes_at_least_so_often(self):
        for heap, other, ties, _ in drawn_led(76, 60, least=2, most=4):
            least = dict(goings(heap, other, ties))
            links = [(book, number) for book in heap for number in (1, 2, 3, 4)]
            grown = [[link] for link in links if shows_chain(heap, other, ties, [link])]
            for _ in range(3):
                grown = [thing + [link] for thing in grown[:40] for link in links]
                grown = [thing for thing in grown if shows_chain(heap, other, ties, thing)]
                self.assertTrue(all(thing[-1][1] <= least[thing[-1][0]] for thing in grown))

    def test_long_things(self):
        heap, other, ties = ("a", "b"), ("b", "a"), (("a", "b"), ("b", "a"))
        self.assertIs(shows_chain(heap, other, ties, [("b", 1)] * 20000), False)
        heap, other, ties = ("a", "b", "c"), ("c", "b", "a"), (("b", "a"), ("c", "b"))
        thing = [("b", 1)] + [("c", 1), ("b", 1)] * 10000
        self.assertIs(shows_chain(heap, other, ties, thing), is_chain(heap, other, ties, thing))
        thing = [("b", 1)] * 20000
        self.assertIs(shows_chain(heap, other, ties, thing), False)

    def test_unlike_heaps_ahead_of_all(self):
        for thing in SHOWN_ODD + [[("a", 1)]]:
            check_unlike(self, shows_chain, thing)


class Asking(unittest.TestCase):
    def test_chain(self):
        for heap, other, ties, _ in drawn_led(77, 20):
            for book in heap[:4] + ("none",):
                check_asking(self, chain, {"heap": heap, "other": other, "ties": ties, "book": book})

    def test_chain_refused(self):
        for heap, other, ties in [(heap, other, ()) for heap, other in UNLIKE] + list(drawn_barred(78, 8)):
            check_asking(self, chain, {"heap": heap, "other": other, "ties": ties, "book": heap[0]})
        for book in (["a"], ("a",), [("a", None)], None, 3):
            named = {"heap": ("a", "b"), "other": ("b", "a"), "ties": (), "book": book}
            check_asking(self, chain, named, exact=("book",))

    def test_shows_chain(self):
        heap, other, ties = ShowsChain.heap, ShowsChain.other, ShowsChain.ties
        for thing in [ShowsChain.whole, [("b", 1)], [("a", 1)], [["b", 1]], (("b", 1),)] + SHOWN_ODD:
            check_asking(self, shows_chain, {"heap": heap, "other": other, "ties": ties, "thing": thing})
        for heap, other, ties in drawn_barred(79, 8):
            for book in heap:
                named = {"heap": heap, "other": other, "ties": ties, "thing": [(book, 1)]}
                check_asking(self, shows_chain, named)


if __name__ == "__main__":
    unittest.main()
