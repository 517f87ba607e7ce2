"""[22]: a desk, row by row against a pile and the asks themselves, and all that isn't so written."""

import collections
import itertools
import random
import re
import unittest

from heapfriends.back import can_go_back
from heapfriends.desk import answers
from heapfriends.errors import BadRow
from heapfriends.least import fewest
from heapfriends.lifting import must_go
from heapfriends.many import led_many
from heapfriends.pile import Pile
from heapfriends.rings import knots
from helper import BOOKS, check_asking, drawn_heaps, is_let, outcome, texts_near

NAME = "[a-z]{1,6}"
FIRST = rf"heap( {NAME}){{1,12}}"
LATER = rf"(lay|add|take|back|went) {NAME}|(tie|untie) {NAME} {NAME}|undo|heap|ties|may|knots|many"
SEVERAL = rf"(must|to)( {NAME})+"


def unlike(row):
    words = row.split(" ")[1:]
    return len(set(words)) == len(words)


def bad_row(text):
    """By patterns: the number of the first row that isn't so written, None where all are."""
    for number, row in enumerate(text.split("\n")):
        if number == 0:
            right = re.fullmatch(FIRST, row) and unlike(row)
        else:
            right = re.fullmatch(LATER, row) or re.fullmatch(SEVERAL, row) and unlike(row)
        if not right:
            return number
    return None


def joined(words):
    return " ".join(words) or "-"


def named(function, *args):
    """What is told, or the text of a refusal."""
    told = outcome(function, *args)
    return "refused " + re.match("refused ([A-Za-z]*)", told).group(1) if told.startswith("refused") else None


def expected(pile, row):
    """What the pile itself, and the asks of its heap and ties, tell."""
    word, *books = row.split(" ")
    heap, ties = pile.heap(), pile.ties()
    if word in ("lay", "tie", "untie", "add", "take", "undo"):
        refusal = named(getattr(pile.twin(), word), *books)
        if refusal:
            return refusal
        told = getattr(pile, word)(*books)
        return {None: "done", True: "yes", False: "no"}[told] if word != "lay" else str(told)
    if word == "must":
        return joined(must_go(heap, ties, books)) if set(books) <= set(heap) else "refused NoBook"
    if word == "to":
        refusal = named(fewest, heap, tuple(books), ties)
        return {None: None, "refused Barred": "ring"}.get(refusal, refusal) or "row " + str(fewest(heap, books, ties))
    if word == "many":
        return named(led_many, heap, ties) or str(led_many(heap, ties))
    if word == "back":
        return named(can_go_back, heap, ties, *books) or ("yes" if can_go_back(heap, ties, *books) else "no")
    return {
        "heap": lambda: joined(heap), "ties": lambda: joined([">".join(pair) for pair in ties]),
        "may": lambda: joined([book for book in sorted(heap) if is_let(heap, ties, book)]),
        "knots": lambda: " ; ".join(" ".join(knot) for knot in knots(ties)) or "-",
        "went": lambda: str(pile.went(*books)),
    }[word]()


def drawn_book(draw, heap):
    return draw.choice(heap) if draw.random() < 0.9 else draw.choice(BOOKS + ("z", "zzzzzz"))


def drawn_row(draw, heap):
    word = draw.choice((
        "lay", "lay", "tie", "tie", "tie", "untie", "add", "take", "undo", "heap", "ties", "may", "knots", "must", "to",
        "many", "back", "went",
    ))
    if word in ("lay", "take", "back", "went"):
        return word + " " + drawn_book(draw, heap)
    if word == "add":
        return word + " " + draw.choice(BOOKS + ("z", "zzzzzz"))
    if word in ("tie", "untie"):
        return word + " " + drawn_book(draw, heap) + " " + drawn_book(draw, heap)
    if word == "must":
        return word + " " + " ".join(draw.sample(heap, draw.randint(1, len(heap))) + draw.choice(([], [], ["nobody"])))
    if word == "to":
        return word + " " + " ".join(draw.sample(heap, len(heap)) + draw.choice(([], [], [], ["nobody"])))
    return word


def drawn_desks(seed, many, rows, least=1, most=12):
    """Pairs (text, answers) of so many rows behind the first."""
    draw = random.Random(seed)
    for heap, _ in drawn_heaps(seed, many, least, most):
        pile = Pile(heap)
        asked, told = ["heap " + " ".join(heap)], []
        # On rings of three and more some heaps aren't led to, and some deeds can't be gone back.
        ring = draw.sample(heap, draw.choice((0, min(len(heap), 5))))
        bound = ["tie " + " ".join(pair) for pair in zip(ring, ring[1:] + ring[:1])]
        for number in range(rows):
            asked.append(bound[number] if number < len(bound) else drawn_row(draw, pile.heap()))
            told.append(expected(pile, asked[-1]))
        yield "\n".join(asked), told


class Answers(unittest.TestCase):
    def check(self, rows, told):
        given = answers("\n".join(rows))
        self.assertIs(type(given), list)
        self.assertEqual(given, told)

    def test_no_more_rows_than_the_first(self):
        self.assertEqual(repr(answers("heap a")), "[]")
        self.assertEqual(repr(answers("heap " + " ".join(BOOKS))), "[]")

    def test_deeds(self):
        self.check(
            ["heap a b c", "lay c", "lay c", "lay b", "heap", "tie a b", "ties", "untie a b", "ties", "add folder", "heap",
             "take a", "heap", "undo", "undo", "heap", "undo", "undo", "undo", "undo", "undo", "undo", "heap"],
            ["2", "0", "2", "b c a", "done", "a>b", "done", "-", "done", "folder b c a",
             "done", "folder b c", "yes", "yes", "b c a", "yes", "yes", "yes", "yes", "yes", "no", "a b c"],
        )

    def test_asks(self):
        ties = ["tie a b", "tie b c", "tie c a", "tie e d", "tie d e", "tie d a"]
        self.check(
            ["heap a b c d e"] + ties + ["heap", "ties", "may", "knots"], ["done"] * 6 + [
                "a b c d e", "a>b b>c c>a d>a d>e e>d", "c e", "a b c ; d e"],
        )
        self.check(
            ["heap a b c d e"] + ties + ["must a", "must b", "must c d", "must e", "must d b"],
            ["done"] * 6 + ["a b c", "b c", "c d e", "e", "b c d e"],
        )
        self.check(
            ["heap a b c"] + ties[:3] + ["to a b c", "to c a b", "to b c a", "to c b a", "many", "back c", "lay c", "lay b",
                                         "went b", "went a", "went zzzzzz"],
            ["done"] * 3 + ["row 0", "row 1", "row 2", "ring", "3", "yes", "2", "2", "1", "0", "0"],
        )
        self.check(
            ["heap b a c"] + ties[:3] + ["back a", "back c", "many", "to a b c"], ["done"] * 3 + ["no", "yes", "6", "row 1"],
        )

    def test_none_of_several(self):
        self.check(["heap a b", "ties", "knots"], ["-", "-"])

    def test_one_of_several(self):
        self.check(["heap a b", "tie a b", "tie b a", "may", "knots", "must b"], ["done", "done", "b", "a b", "b"])

    def test_each_refusal(self):
        self.check(
            ["heap a b", "lay z", "take z", "back z", "tie a z", "tie z a", "untie z a", "must z", "must a z", "must z a b"],
            ["refused NoBook"] * 9,
        )
        self.check(
            ["heap a b", "tie a b", "lay a", "back a", "tie a b", "tie a a", "untie b a", "untie a a", "add a", "take a",
             "take b", "to a", "to b a", "to b c d", "to b"],
            ["done", "refused MayNot", "refused MayNot", "refused Tied", "refused Own", "refused NoTie", "refused NoTie",
             "refused Taken", "done", "refused Last", "refused Unlike", "refused Unlike", "refused Unlike", "row 0"],
        )

    def test_full(self):
        first = "heap " + " ".join(BOOKS)
        self.check([first, "add z", "add a", "take a", "add z", "add a"],
                   ["refused Full", "refused Taken", "done", "done", "refused Full"])

    def test_too_many(self):
        ties = ["tie " + book + " " + friend for book, friend in zip(BOOKS[:7], BOOKS[1:7] + BOOKS[:1])]
        first = "heap " + " ".join(BOOKS)
        self.check([first] + ties + ["many"], ["done"] * 7 + ["refused TooMany"])
        self.check([first] + ties[:6] + ["many"], ["done"] * 6 + ["479001600"])

    def test_to_of_however_many_books(self):
        many = [one + other for one in "abcdef" for other in "abcdef"]
        first = "heap " + " ".join(BOOKS)
        for books in (many, many[:13], BOOKS + ("z",)):
            self.check([first, "to " + " ".join(books)], ["refused Unlike"])
            self.check(["heap a", "to " + " ".join(books)], ["refused Unlike"])
        self.check([first, "to " + " ".join(BOOKS[::-1])], ["row 11"])

    def test_must_of_however_many_books(self):
        many = [one + other for one in "abcdef" for other in "abcdef"]
        self.check(["heap a", "must " + " ".join(many)], ["refused NoBook"])

    def test_refused_rows_change_nothing(self):
        self.check(["heap a b", "lay b", "take z", "tie a a", "undo", "undo", "heap"],
                   ["1", "refused NoBook", "refused Own", "yes", "no", "a b"])

    def test_went_of_one_that_was_taken(self):
        self.check(["heap a b", "lay b", "take b", "went b", "add b", "lay b", "went b", "undo", "undo", "undo", "undo",
                    "went b"], ["1", "done", "1", "done", "0", "2", "yes", "yes", "yes", "yes", "0"])

    def test_any_rows(self):
        kinds = collections.Counter()
        for text, told in drawn_desks(213, 120, 59):
            self.assertEqual(answers(text), told)
            for row, answer in zip(text.split("\n")[1:], told):
                kinds[row.split(" ")[0], answer if answer.startswith("refused") else answer.split(" ")[0]] += 1
        for word, answer in (
            ("lay", "refused NoBook"), ("lay", "refused MayNot"), ("lay", "0"), ("tie", "done"), ("tie", "refused Own"),
            ("tie", "refused Tied"), ("tie", "refused NoBook"), ("untie", "done"), ("untie", "refused NoTie"),
            ("untie", "refused NoBook"), ("add", "done"), ("add", "refused Taken"), ("add", "refused Full"),
            ("take", "done"), ("take", "refused NoBook"), ("take", "refused Last"), ("undo", "yes"), ("undo", "no"),
            ("ties", "-"), ("knots", "-"), ("must", "refused NoBook"), ("to", "row"), ("to", "ring"), ("to", "refused Unlike"),
            ("back", "yes"), ("back", "no"), ("back", "refused MayNot"), ("back", "refused NoBook"), ("went", "0"),
            ("went", "1"),
        ):
            self.assertGreater(kinds[word, answer], 0, (word, answer))

    def test_sixty_rows_of_two_hundred_signs(self):
        books = [first + second + "abcd" for first in "abcd" for second in "efg"]
        first = "heap " + " ".join(books)
        row = "must " + " ".join(books[:5])
        long = "to " + " ".join(one + other + "zzzz" for one in "abcde" for other in "fghijk")[:197].rsplit(" ", 1)[0]
        self.check([first] + [row] * 30 + [long] * 29, [" ".join(sorted(books[:5]))] * 30 + ["refused Unlike"] * 29)

    def test_few_books(self):
        for text, told in drawn_desks(214, 80, 30, most=3):
            self.assertEqual(answers(text), told)


class BadRows(unittest.TestCase):
    def check(self, text, number):
        with self.assertRaises(BadRow) as held:
            answers(text)
        self.assertEqual(repr(held.exception.number), repr(number))

    def check_as_written(self, text):
        number = bad_row(text)
        if number is None:
            self.assertEqual(len(answers(text)), text.count("\n"))
        else:
            self.check(text, number)
        return number

    def test_the_bare_text(self):
        self.check("", 0)

    def test_first_rows(self):
        thirteen = " ".join(BOOKS + ("z",))
        for first in (
            "", " ", "heap", "heap ", "heap a a", "heap a b a", "heap  a", " heap a", "heap a ", "heap a  b", "heap A",
            "heap a1", "heap abcdefg", "heaps a", "Heap a", "a", "a b", "undo", "lay a", "heap -", "heap a>b", "heap a,b",
            "heap " + thirteen, "ties", "to a", "must a", "heap\ta", "heap a\r",
        ):
            self.check(first, 0)
            self.check(first + "\nheap", 0)
            self.check(first + "\nwrong", 0)
        self.assertEqual(answers("heap " + " ".join(BOOKS) + "\nundo"), ["no"])

    def test_later_rows(self):
        for row in (
            "", " ", "lay", "lay ", "lay a b", "lay A", "lay abcdefg", "lay  a", " lay a", "lay a ", "Lay a", "lays a", "a",
            "tie", "tie a", "tie a b c", "tie a  b", "tie a b ", "tie a>b", "tie a B", "untie", "untie a", "untie a b c",
            "add", "add a b", "add a 1", "add 1", "take", "take a b", "undo a", "undo ", " undo", "undo undo", "heap a",
            "heap ", "heap a b", "ties a", "ties ", "may a", "may ", "may_go", "knots a", "knots ", "must", "must ",
            "must a a", "must b a b", "must a  b", "must a ", "must A", "must abcdefg", "to", "to ", "to a a", "to b a b",
            "to a  b", "to a ", "to A", "to -", "many a", "many ", "back", "back a b", "back A", "went", "went a b",
            "went A", "go a", "go", "twin", "log", "deeds", "told a", "as_of 1", "-", "lay -", "knots ;", "lay\ta",
            "lay a\r", "undo\t",
        ):
            self.check("heap a b\n" + row, 1)
            self.check("heap a b\nundo\nheap\n" + row, 3)
            self.check("heap a b\n" + row + "\nundo\nwrong", 1)

    def test_behind_a_last_line_feed(self):
        for text, number in (("heap a\n", 1), ("heap a\nundo\n", 2), ("\n", 0), ("heap a\n\nundo", 1), ("\nheap a", 0),
                             ("heap a\n\n", 1), ("heap a\nundo\nheap\n", 3)):
            self.check(text, number)

    def test_ahead_of_all_answers(self):
        self.check("heap a b\nlay z\ntake z\nlay", 3)
        self.check("heap a b\n" + "lay b\n" * 58 + "nothing", 59)

    def test_one_sign_otherwise_at_every_place(self):
        found = collections.Counter()
        for text in (
            "heap a b\nlay b\nmust a b", "heap ab\ntie a ab\nundo\nto b a", "heap c\nuntie c folder\nwent c",
            "heap a b\nheap\nties\nmay\nknots", "heap a\nadd b\ntake a\nback b\nmany",
        ):
            for near in texts_near(text):
                found[self.check_as_written(near)] += 1
        self.assertGreater(min(found[number] for number in (None, 0, 1, 2, 3, 4)), 20)

    def test_one_word_otherwise(self):
        found = collections.Counter()
        words = ["", "a", "b", "zzzzzz", "lay", "tie", "must", "to", "heap", "undo", "A", "-", "a b", "1"]
        for text in ("heap a b\nlay b\nmust a b\nundo\nto b a\ntie a b", "heap b\nheap\nmay\nback a\nknots\nwent b"):
            rows = [row.split(" ") for row in text.split("\n")]
            for number, row in enumerate(rows):
                for at, word in itertools.product(range(len(row) + 1), words):
                    for end in (at, at + 1):
                        new = row[:at] + [word] + row[end:]
                        told = rows[:number] + [new] + rows[number + 1:]
                        found[self.check_as_written("\n".join(" ".join(each) for each in told))] += 1
                for at in range(len(row)):
                    told = rows[:number] + [row[:at] + row[at + 1:]] + rows[number + 1:]
                    found[self.check_as_written("\n".join(" ".join(each) for each in told))] += 1
        self.assertGreater(min(found[number] for number in (None, 0, 1, 2, 3, 4, 5)), 20)

    def test_one_row_otherwise(self):
        draw = random.Random(215)
        wrong = ("", "lay", "lay a b", "must a a", "heap a", "go", " undo", "undo ", "tie a  b", "to", "UNDO", "13")
        for text, _ in drawn_desks(215, 30, 20):
            rows = text.split("\n")
            for row in wrong:
                at = draw.randint(1, len(rows))
                self.check("\n".join(rows[:at] + [row] + rows[at:]), at)
                self.check("\n".join(rows[:at] + [row] + [draw.choice(wrong)] + rows[at:]), at)


class Asking(unittest.TestCase):
    def test_asking(self):
        for text, _ in drawn_desks(216, 15, 20):
            check_asking(self, answers, {"text": text})
            check_asking(self, answers, {"text": text + "\n"})
        check_asking(self, answers, {"text": ""})


if __name__ == "__main__":
    unittest.main()
