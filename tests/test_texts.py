"""[21]: texts of heaps and ties, there and back, and all texts that differ from one by a sign."""

import re
import unittest

from heapfriends.errors import BadText
from heapfriends.texts import heap_in, heap_text, ties_in, ties_text
from helper import BOOKS, all_ties, check_asking, drawn_heaps, texts_near

NAME = "[a-z]{1,6}"


def heap_of(text):
    """By a pattern: the HEAP whose text it is, None where it's no such text."""
    if not re.fullmatch(rf"{NAME}( {NAME})*", text, re.ASCII):
        return None
    books = tuple(text.split(" "))
    return books if len(set(books)) == len(books) else None


def ties_of(text):
    if text == "-":
        return ()
    if not re.fullmatch(rf"{NAME}>{NAME}( {NAME}>{NAME})*", text, re.ASCII):
        return None
    ties = tuple(re.findall(rf"({NAME})>({NAME})", text))
    right = all(book != friend for book, friend in ties) and list(ties) == sorted(set(ties))
    return ties if right else None


class Both(unittest.TestCase):
    def check(self, ask, text, told):
        if told is not None:
            self.assertEqual(repr(ask(text)), repr(told))
        else:
            with self.assertRaises(BadText) as held:
                ask(text)
            self.assertIs(held.exception.text, text)
        return told is not None


class Heaps(Both):
    def test_told(self):
        for heap, text in (
            (("a",), "a"), (("b", "a"), "b a"), (("fable", "ab", "folder"), "fable ab folder"),
            (BOOKS, "a ab b bell c d dd e fable folder g h"),
        ):
            self.assertEqual(heap_text(heap), text)
            self.assertEqual(heap_text(list(heap)), text)
            self.assertEqual(repr(heap_in(text)), repr(heap))

    def test_there_and_back(self):
        for heap, _ in drawn_heaps(200, 100):
            self.assertEqual(repr(heap_in(heap_text(heap))), repr(heap))

    def test_more_than_twelve_books(self):
        heap = tuple(one + other for one in "abcdefgh" for other in "abcdefgh")
        self.assertEqual(heap_in(" ".join(heap)), heap)
        self.assertEqual(heap_text(heap), " ".join(heap))

    def test_no_texts_of_heaps(self):
        for text in (
            "", " ", "  ", "-", "a a", "a  b", " a", "a ", "a b ", "A", "a B", "a1", "abcdefg", "a abcdefg", "a,b", "a>b",
            "a\nb", "a\n", "\na", "a\tb", "a b a", "\u00e9", "a \u0430", "\uff41", "a\u00a0b", "a\u2003b", "None", "()",
        ):
            self.check(heap_in, text, None)

    def test_one_sign_otherwise_at_every_place(self):
        told = []
        for text in ("a", "b a", "ab abcdef", "c d", "a b c ab"):
            for near in texts_near(text):
                told.append(self.check(heap_in, near, heap_of(near)))
        self.assertTrue(any(told) and not all(told))


class Ties(Both):
    def test_told(self):
        for ties, text in (
            ((), "-"), ((("a", "b"),), "a>b"), ((("a", "b"), ("a", "c"), ("b", "a")), "a>b a>c b>a"),
            ((("ab", "folder"), ("b", "ab")), "ab>folder b>ab"), ((("a", "z"), ("ab", "a"), ("b", "a")), "a>z ab>a b>a"),
        ):
            self.assertEqual(ties_text(ties), text)
            self.assertEqual(ties_text([list(pair) for pair in ties]), text)
            self.assertEqual(repr(ties_in(text)), repr(ties))

    def test_there_and_back(self):
        for ties in all_ties(("a", "ab", "c")):
            self.assertEqual(repr(ties_in(ties_text(ties))), repr(ties))
        for _, ties in drawn_heaps(201, 100):
            self.assertEqual(repr(ties_in(ties_text(ties))), repr(ties))

    def test_no_texts_of_ties(self):
        for text in (
            "", " ", "--", "- ", " -", "- a>b", "a>b -", "a", "a b", ">", "a>", ">b", "a>a", "a>b a>a", "a>b>c", "a>>b",
            "a> b", "a >b", "a>b  b>a", "a>b ", " a>b", "b>a a>b", "a>b a>b", "a>c a>b", "ab>c a>b", "a<b", "A>b", "a>B",
            "abcdefg>a", "a>abcdefg", "a>b\nb>a", "a>b\n", "a>1", "a-b", "\u00e9>a", "a>\u0430", "()", "None",
        ):
            self.check(ties_in, text, None)

    def test_one_sign_otherwise_at_every_place(self):
        told = []
        for text in ("-", "a>b", "a>b b>a", "ab>c b>folder", "a>b a>c b>a"):
            for near in texts_near(text):
                told.append(self.check(ties_in, near, ties_of(near)))
        self.assertTrue(any(told) and not all(told))


class Asking(unittest.TestCase):
    def test_asking(self):
        for heap, ties in drawn_heaps(202, 25):
            check_asking(self, heap_text, {"heap": heap})
            check_asking(self, ties_text, {"ties": ties})
            check_asking(self, heap_in, {"text": heap_text(heap)})
            check_asking(self, ties_in, {"text": ties_text(ties)})
        for text in ("", "a a", "b>a a>b"):
            check_asking(self, heap_in, {"text": text})
            check_asking(self, ties_in, {"text": text})


if __name__ == "__main__":
    unittest.main()
