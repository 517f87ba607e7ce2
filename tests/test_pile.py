"""[19], [20] and [1] (h): a pile over deeds, against the deeds that stand done anew by plain means."""

import collections
import itertools
import random
import unittest

from heapfriends.between import between
from heapfriends.errors import (
    Full, Last, MayNot, NoBook, NoDeed, NoName, NoPlace, NoTie, Own, Taken, Tied, Unlike,
)
from heapfriends.pile import Pile
from helper import (
    BOOKS, HUGE, ODD, SHOWN_ODD, UNLIKE, check_asking, drawn_barred, drawn_heaps, drawn_row, is_let, moved, outcome,
)

HEAP, TIES = ("a", "b", "c", "d"), (("a", "c"), ("b", "a"), ("c", "a"), ("d", "b"))
NAMES = ("a", "b", "ab", "zz", "abcdef")
NO_NAMES = [thing for thing in ODD if thing not in NAMES]
NUMBERS = (-HUGE, -10 ** 12, -13, -4, -2, -1, 0, 1, 2, 3, 4, 5, 11, 12, 13, 80, 81, 10 ** 12, HUGE)


def refused(name, **fields):
    return "refused " + name + repr(fields)


def behind(word, args, heap, ties):
    """By plain means: what the deed tells or how it's refused, and (heap, ties, goers) behind it, None of refused."""
    return {"lay": behind_row, "go": behind_row, "tie": behind_tie, "untie": behind_untie, "add": behind_add,
            "take": behind_take}[word](word, args, heap, ties)


def behind_row(word, args, heap, ties):
    row = [args[0]] if word == "lay" else args[0]
    told, here = [], heap
    for book in row:
        if book not in heap:
            return refused("NoBook", book=book), None
        if not is_let(here, ties, book):
            return refused("MayNot", book=book), None
        told.append(here.index(book))
        here = moved(here, book)
    return "told " + repr(told[0] if word == "lay" else told), (here, ties, list(row))


def behind_tie(word, args, heap, ties):
    book, friend = args
    for each in (book, friend):
        if each not in heap:
            return refused("NoBook", book=each), None
    if book == friend:
        return refused("Own", book=book), None
    if (book, friend) in ties:
        return refused("Tied", pair=(book, friend)), None
    return "told None", (heap, tuple(sorted(ties + ((book, friend),))), [])


def behind_untie(word, args, heap, ties):
    book, friend = args
    for each in (book, friend):
        if each not in heap:
            return refused("NoBook", book=each), None
    if (book, friend) not in ties:
        return refused("NoTie", pair=(book, friend)), None
    return "told None", (heap, tuple(pair for pair in ties if pair != (book, friend)), [])


def behind_add(word, args, heap, ties):
    book, at = (args + (0,))[:2]
    if type(book) is not str or not (1 <= len(book) <= 6) or set(book) - set("abcdefghijklmnopqrstuvwxyz"):
        return refused("NoName", book=book), None
    if book in heap:
        return refused("Taken", book=book), None
    if len(heap) == 12:
        return refused("Full", many=12), None
    if at not in range(len(heap) + 1):
        return refused("NoPlace", at=at), None
    return "told None", (heap[:at] + (book,) + heap[at:], ties, [])


def behind_take(word, args, heap, ties):
    if args[0] not in heap:
        return refused("NoBook", book=args[0]), None
    if len(heap) == 1:
        return refused("Last"), None
    rest = tuple(book for book in heap if book != args[0])
    return "told None", (rest, tuple(pair for pair in ties if args[0] not in pair), [])


class Plain:
    """The first heap and ties, and the deeds that stand, done anew for each ask."""

    def __init__(self, heap, ties):
        self.first, self.standing, self.log = (heap, ties), [], []

    def do(self, word, args):
        self.log += [("in", word), ("out", word)]
        if word == "undo":
            told = "told " + repr(len(self.standing) > 0)
            self.standing = self.standing[:-1]
            return told
        told, stands = behind(word, args, *self.stands()[:2])
        if stands is not None:
            self.standing.append((word, args))
        return told

    def stands(self, many=None):
        """(heap, ties, Counter of goings) behind the first so many deeds."""
        (heap, ties), went = self.first, collections.Counter()
        for word, args in self.standing[:many]:
            heap, ties, goers = behind(word, args, heap, ties)[1]
            went.update(goers)
        return heap, ties, went


def drawn_book(draw, heap):
    return draw.choice(heap) if draw.random() < 0.85 else draw.choice(BOOKS + ("z", "", "A", 7, None, ("a",), ["a"]))


def drawn_deed(draw, heap, ties):
    word = draw.choice(("lay", "lay", "go", "tie", "tie", "untie", "add", "take", "undo"))
    if word == "undo":
        return word, ()
    if word == "go":
        row = drawn_row(draw, heap, ties, draw.randint(0, 5))
        return word, (row if draw.random() < 0.7 else row + [drawn_book(draw, heap)],)
    if word == "tie":
        return word, (drawn_book(draw, heap), drawn_book(draw, heap))
    if word == "untie":
        right = ties and draw.random() < 0.7
        return word, draw.choice(ties) if right else (drawn_book(draw, heap), drawn_book(draw, heap))
    if word == "add":
        book = draw.choice(BOOKS + ("x", "y", "zzzzzz")) if draw.random() < 0.8 else drawn_book(draw, heap)
        return word, (book,) if draw.random() < 0.3 else (book, draw.randint(-1, len(heap) + 1))
    return word, (drawn_book(draw, heap),)


def tell(pile, word, args):
    return outcome(getattr(pile, word), *args)


def drawn_piles(seed, many, deeds=20, least=1, most=12):
    """Pairs (Pile, Plain) behind the same deeds, undone and refused ones among them."""
    draw = random.Random(seed)
    for heap, ties in drawn_heaps(seed, many, least, most):
        pile, plain = Pile(heap, ties), Plain(heap, ties)
        for _ in range(draw.randint(0, deeds)):
            word, args = drawn_deed(draw, *plain.stands()[:2])
            plain.do(word, args)
            tell(pile, word, args)
        yield pile, plain


class Checks(unittest.TestCase):
    def check_stands(self, pile, heap, ties, went, deeds):
        """All that a pile tells of how it stands."""
        self.assertEqual(repr((pile.heap(), pile.ties())), repr((heap, ties)))
        self.assertEqual(repr(pile.may_go()), repr(sorted(book for book in heap if is_let(heap, ties, book))))
        for book in sorted({*BOOKS, *heap, *went, "none"}):
            self.assertEqual(repr(pile.went(book)), repr(went.get(book, 0)))
        self.assertEqual(repr(pile.deeds()), repr(deeds))
        self.assertEqual(len(pile), len(heap))
        self.assertEqual(repr(pile), "Pile(" + str(len(heap)) + " books, " + str(len(ties)) + " ties)")
        self.assertTrue(pile == Pile(heap, ties))
        self.assertFalse(pile != Pile(heap, ties))
        self.assertEqual(pile.told(heap[::-1]), between(heap, heap[::-1], ties))

    def check_as(self, pile, plain):
        self.check_stands(pile, *plain.stands(), len(plain.standing))

    def check_refused(self, pile, refusal, fields, deed, *args):
        """A refused deed changes nothing but the log."""
        before = (pile.heap(), pile.ties(), pile.deeds(), [pile.went(book) for book in BOOKS])
        log = pile.log()
        with self.assertRaises(refusal) as held:
            getattr(pile, deed)(*args)
        self.assertIs(type(held.exception), refusal)
        for field, value in fields.items():
            told = getattr(held.exception, field)
            self.assertTrue(told is value or told == value and type(told) is type(value), deed)
        self.assertEqual(set(vars(held.exception)), set(fields))
        self.assertEqual((pile.heap(), pile.ties(), pile.deeds(), [pile.went(book) for book in BOOKS]), before)
        self.assertEqual(pile.log(), log + [("in", deed), ("out", deed)])


class Deeds(Checks):
    def test_made(self):
        pile = Pile(("b", "a"))
        self.check_stands(pile, ("b", "a"), (), {}, 0)
        self.assertEqual(pile.log(), [])
        for made in (
            Pile(HEAP, TIES), Pile(list(HEAP), [list(pair) for pair in TIES]), Pile(heap=HEAP, ties=TIES),
            Pile(ties=TIES, heap=HEAP), Pile(HEAP, ties=list(TIES)),
        ):
            self.check_stands(made, HEAP, TIES, {}, 0)

    def test_lay(self):
        pile = Pile(HEAP, TIES)
        for book, told, heap in (
            ("c", 2, ("c", "a", "b", "d")), ("a", 1, ("a", "c", "b", "d")), ("d", 3, ("d", "a", "c", "b")),
            ("b", 3, ("b", "d", "a", "c")),
        ):
            self.assertEqual(repr(pile.lay(book)), repr(told))
            self.assertEqual(pile.heap(), heap)
        self.check_stands(pile, ("b", "d", "a", "c"), TIES, dict.fromkeys("abcd", 1), 4)

    def test_lay_of_the_uppermost(self):
        pile = Pile(("a", "b"))
        self.assertEqual(repr(pile.lay("a")), "0")
        self.check_stands(pile, ("a", "b"), (), {"a": 1}, 1)

    def test_go(self):
        pile = Pile(HEAP, TIES)
        self.assertEqual(repr(pile.go(["c", "a", "c"])), "[2, 1, 1]")
        self.check_stands(pile, ("c", "a", "b", "d"), TIES, {"a": 1, "c": 2}, 1)
        self.assertEqual(repr(pile.go(("a", "d"))), "[1, 3]")
        self.check_stands(pile, ("d", "a", "c", "b"), TIES, {"a": 2, "c": 2, "d": 1}, 2)
        self.assertIs(pile.undo(), True)
        self.check_stands(pile, ("c", "a", "b", "d"), TIES, {"a": 1, "c": 2}, 1)
        self.assertIs(pile.undo(), True)
        self.check_stands(pile, HEAP, TIES, {}, 0)

    def test_go_of_none(self):
        for row in ([], ()):
            pile = Pile(HEAP, TIES)
            pile.lay("c")
            self.assertEqual(repr(pile.go(row)), "[]")
            self.check_stands(pile, ("c", "a", "b", "d"), TIES, {"c": 1}, 2)
            self.assertIs(pile.undo(), True)
            self.check_stands(pile, ("c", "a", "b", "d"), TIES, {"c": 1}, 1)

    def test_go_of_200_deeds(self):
        draw = random.Random(203)
        for heap, ties in drawn_heaps(203, 10, least=12):
            row = drawn_row(draw, heap, ties, 200)
            pile = Pile(heap, ties)
            told, stands = behind("go", (row,), heap, ties)
            self.assertEqual("told " + repr(pile.go(row)), told)
            self.check_stands(pile, stands[0], ties, collections.Counter(row), 1)

    def test_tie_and_untie(self):
        pile = Pile(("b", "a", "c"))
        for book, friend, ties in (
            ("c", "a", (("c", "a"),)), ("a", "b", (("a", "b"), ("c", "a"))),
            ("a", "c", (("a", "b"), ("a", "c"), ("c", "a"))),
        ):
            self.assertIsNone(pile.tie(book, friend))
            self.assertEqual(repr(pile.ties()), repr(ties))
        self.assertIsNone(pile.untie("a", "b"))
        self.check_stands(pile, ("b", "a", "c"), (("a", "c"), ("c", "a")), {}, 4)

    def test_add(self):
        for at in range(5):
            pile = Pile(HEAP, TIES)
            self.assertIsNone(pile.add("e", at))
            self.check_stands(pile, HEAP[:at] + ("e",) + HEAP[at:], TIES, {}, 1)
        pile = Pile(HEAP, TIES)
        self.assertIsNone(pile.add("folder"))
        self.check_stands(pile, ("folder",) + HEAP, TIES, {}, 1)

    def test_take(self):
        for book, heap, ties in (
            ("a", ("b", "c", "d"), (("d", "b"),)), ("b", ("a", "c", "d"), (("a", "c"), ("c", "a"))),
            ("d", ("a", "b", "c"), (("a", "c"), ("b", "a"), ("c", "a"))), ("c", ("a", "b", "d"), (("b", "a"), ("d", "b"))),
        ):
            pile = Pile(HEAP, TIES)
            self.assertIsNone(pile.take(book))
            self.check_stands(pile, heap, ties, {}, 1)

    def test_taken_and_put_again_without_its_ties(self):
        pile = Pile(("a", "b"), (("a", "b"), ("b", "a")))
        pile.take("a")
        pile.add("a", 1)
        self.check_stands(pile, ("b", "a"), (), {}, 2)
        pile.undo()
        pile.undo()
        self.check_stands(pile, ("a", "b"), (("a", "b"), ("b", "a")), {}, 0)

    def test_undo(self):
        pile = Pile(("a", "b"))
        self.assertIs(pile.undo(), False)
        pile.lay("b")
        pile.tie("a", "b")
        pile.add("c")
        for heap, ties, went, deeds in ((("b", "a"), (("a", "b"),), 1, 2), (("b", "a"), (), 1, 1), (("a", "b"), (), 0, 0)):
            self.assertIs(pile.undo(), True)
            self.check_stands(pile, heap, ties, {"b": went}, deeds)
        for _ in range(3):
            self.assertIs(pile.undo(), False)
            self.check_stands(pile, ("a", "b"), (), {}, 0)

    def test_refused_deeds_are_not_undone(self):
        pile = Pile(("a", "b"))
        pile.lay("b")
        self.check_refused(pile, NoBook, {"book": "z"}, "lay", "z")
        self.check_refused(pile, Own, {"book": "a"}, "tie", "a", "a")
        self.assertIs(pile.undo(), True)
        self.check_stands(pile, ("a", "b"), (), {}, 0)
        self.assertIs(pile.undo(), False)

    def test_by_names_in_any_order(self):
        made = Pile(HEAP, TIES)
        for word, named in (
            ("lay", {"book": "c"}), ("go", {"row": ["c", "a"]}), ("tie", {"book": "a", "friend": "d"}),
            ("untie", {"book": "d", "friend": "b"}), ("add", {"book": "e", "at": 2}), ("take", {"book": "b"}),
            ("add", {"book": "e"}), ("tie", {"book": "a", "friend": "c"}), ("untie", {"book": "c", "friend": "b"}),
        ):
            first = made.twin()
            told = outcome(getattr(first, word), *named.values())
            for order in itertools.permutations(named):
                other = made.twin()
                self.assertEqual(outcome(getattr(other, word), **{name: named[name] for name in order}), told)
                self.check_stands(other, first.heap(), first.ties(), {each: first.went(each) for each in HEAP},
                                  first.deeds())


class Refusals(Checks):
    def test_lay(self):
        pile = Pile(HEAP, TIES)
        for thing in ODD:
            if thing not in HEAP:
                self.check_refused(pile, NoBook, {"book": thing}, "lay", thing)
        self.check_refused(pile, MayNot, {"book": "a"}, "lay", "a")

    def test_go(self):
        pile = Pile(HEAP, TIES)
        for thing in ODD:
            if thing not in HEAP:
                for row in ([thing], ["c", thing], ("c", "a", thing, "zzz")):
                    self.check_refused(pile, NoBook, {"book": thing}, "go", row)
        for row, book in ((["a"], "a"), (["c", "c"], "c"), (["c", "a", "b", "b", "z"], "b"), (["d", "c", "d", "a"], "d")):
            self.check_refused(pile, MayNot, {"book": book}, "go", row)

    def test_go_as_the_first_that_is(self):
        pile = Pile(HEAP, TIES)
        self.check_refused(pile, MayNot, {"book": "a"}, "go", ["a", "z"])
        self.check_refused(pile, NoBook, {"book": "z"}, "go", ["z", "a"])

    def test_tie(self):
        pile = Pile(HEAP, TIES)
        for thing in ODD:
            if thing not in HEAP:
                for args in ((thing, "a"), ("a", thing), (thing, thing), (thing, "zzz")):
                    self.check_refused(pile, NoBook, {"book": thing}, "tie", *args)
        self.check_refused(pile, NoBook, {"book": "y"}, "tie", "y", "z")
        for book in HEAP:
            self.check_refused(pile, Own, {"book": book}, "tie", book, book)
        for pair in TIES:
            self.check_refused(pile, Tied, {"pair": pair}, "tie", *pair)

    def test_untie(self):
        pile = Pile(HEAP, TIES)
        for thing in ODD:
            if thing not in HEAP:
                for args in ((thing, "a"), ("a", thing), (thing, thing), (thing, "zzz")):
                    self.check_refused(pile, NoBook, {"book": thing}, "untie", *args)
        for pair in itertools.product(HEAP, repeat=2):
            if pair not in TIES:
                self.check_refused(pile, NoTie, {"pair": pair}, "untie", *pair)

    def test_add(self):
        pile, full = Pile(HEAP, TIES), Pile(BOOKS)
        for thing in NO_NAMES:
            for at in NUMBERS:
                self.check_refused(pile, NoName, {"book": thing}, "add", thing, at)
            self.check_refused(full, NoName, {"book": thing}, "add", thing)
        for book in HEAP:
            for at in NUMBERS:
                self.check_refused(pile, Taken, {"book": book}, "add", book, at)
        for at in NUMBERS:
            if not 0 <= at <= 4:
                self.check_refused(pile, NoPlace, {"at": at}, "add", "e", at)

    def test_add_to_twelve(self):
        pile = Pile(BOOKS)
        for at in NUMBERS:
            self.check_refused(pile, Full, {"many": 12}, "add", "z", at)
            self.check_refused(pile, Taken, {"book": "ab"}, "add", "ab", at)
        pile.take("ab")
        self.check_refused(pile, NoPlace, {"at": 12}, "add", "z", 12)
        self.assertIsNone(pile.add("z", 11))
        self.check_refused(pile, Full, {"many": 12}, "add", "ab")

    def test_take(self):
        pile, one = Pile(HEAP, TIES), Pile(("a",))
        for thing in ODD:
            if thing not in HEAP:
                self.check_refused(pile, NoBook, {"book": thing}, "take", thing)
            if thing != "a":
                self.check_refused(one, NoBook, {"book": thing}, "take", thing)
        self.check_refused(one, Last, {}, "take", "a")

    def test_a_book_that_was_taken(self):
        pile = Pile(HEAP, TIES)
        pile.take("a")
        for word, args in (("lay", ("a",)), ("go", (["a"],)), ("tie", ("b", "a")), ("untie", ("b", "a")), ("take", ("a",))):
            self.check_refused(pile, NoBook, {"book": "a"}, word, *args)

    def test_told(self):
        for heap, other in UNLIKE:
            with self.assertRaises(Unlike):
                Pile(heap).told(other)


class AnyDeeds(Checks):
    def check_run(self, seed, many, deeds, least=1, most=12):
        kinds = collections.Counter()
        draw = random.Random(seed)
        for heap, ties in drawn_heaps(seed, many, least, most):
            pile, plain = Pile(heap, ties), Plain(heap, ties)
            for _ in range(deeds):
                word, args = drawn_deed(draw, *plain.stands()[:2])
                told = plain.do(word, args)
                self.assertEqual(tell(pile, word, args), told)
                kinds[word + " " + told.split("{")[0].split()[0 if told.startswith("told") else 1]] += 1
            self.check_as(pile, plain)
            self.assertEqual(repr(pile.log()), repr(plain.log))
            self.check_made_anew(pile, plain)
        return kinds

    def check_made_anew(self, pile, plain):
        """(h): what one made anew tells, and one behind just the deeds that stand."""
        heap, ties, went = plain.stands()
        self.check_stands(Pile(heap, ties), heap, ties, {}, 0)
        again = Pile(*plain.first)
        for word, args in plain.standing:
            getattr(again, word)(*args)
        self.check_stands(again, heap, ties, went, pile.deeds())
        self.assertEqual(again, pile)

    def test_any_deeds(self):
        kinds = self.check_run(204, 120, 30)
        self.assertLessEqual({
            "lay told", "lay NoBook", "lay MayNot", "go told", "go NoBook", "go MayNot", "tie told", "tie NoBook",
            "tie Own", "tie Tied", "untie told", "untie NoBook", "untie NoTie", "add told", "add NoName", "add Taken",
            "add Full", "add NoPlace", "take told", "take NoBook", "take Last", "undo told",
        }, set(kinds))

    def test_behind_each_deed(self):
        draw = random.Random(205)
        for heap, ties in drawn_heaps(205, 25):
            pile, plain = Pile(heap, ties), Plain(heap, ties)
            for _ in range(20):
                word, args = drawn_deed(draw, *plain.stands()[:2])
                self.assertEqual(tell(pile, word, args), plain.do(word, args))
                self.check_as(pile, plain)

    def test_few_books(self):
        self.check_run(206, 60, 40, most=2)

    def test_eighty_deeds_that_stand(self):
        draw = random.Random(207)
        for heap, ties in drawn_heaps(207, 4, least=12):
            pile, plain = Pile(heap, ties), Plain(heap, ties)
            while len(plain.standing) < 80:
                word, args = drawn_deed(draw, *plain.stands()[:2])
                self.assertEqual(tell(pile, word, args), plain.do(word, args))
            self.check_as(pile, plain)
            for many in range(81):
                self.check_stands(pile.as_of(many), *plain.stands(many), many)
            for _ in range(80):
                self.assertIs(pile.undo(), True)
            self.check_stands(pile, heap, ties, {}, 0)
            self.assertIs(pile.undo(), False)


class Asks(Checks):
    def test_heap_and_ties_are_told_as_tuples(self):
        pile = Pile(["b", "a"], [["a", "b"]])
        self.assertEqual(repr(pile.heap()), repr(("b", "a")))
        self.assertEqual(repr(pile.ties()), repr((("a", "b"),)))

    def test_told(self):
        kinds = set()
        draw = random.Random(208)
        for pile, plain in drawn_piles(208, 80):
            heap, ties, _ = plain.stands()
            other = tuple(draw.sample(heap, len(heap)))
            for handed in (other, list(other)):
                told = pile.told(handed)
                kinds.add(told[0])
                self.assertEqual(told, between(heap, other, ties))
        for heap, other, ties in drawn_barred(209, 20):
            kinds.add(Pile(heap, ties).told(other)[0])
        self.assertEqual(kinds, {"row", "ring"})

    def test_went_of_one_that_was_taken(self):
        pile = Pile(("a", "b"))
        pile.go(["b", "a", "b"])
        pile.lay("b")
        pile.take("b")
        self.assertEqual(repr((pile.went("a"), pile.went("b"))), "(1, 3)")
        pile.add("b", 1)
        self.assertEqual(pile.went("b"), 3)
        pile.lay("b")
        self.assertEqual(pile.went("b"), 4)
        for told in (3, 3, 3, 2, 0):
            self.assertIs(pile.undo(), True)
            self.assertEqual(pile.went("b"), told)

    def test_went_of_anything_else(self):
        pile = Pile(("c", "b"))
        pile.lay("b")
        for thing in ODD + [["b"], ("b",), [["b"]], "B", "c"]:
            self.assertEqual(repr(pile.went(thing)), "1" if thing == "b" else "0")

    def test_as_of(self):
        draw = random.Random(210)
        for pile, plain in drawn_piles(210, 60):
            for many in range(pile.deeds() + 1):
                for part in (pile.as_of(many), pile.as_of(many=many)):
                    self.assertIs(type(part), Pile)
                    self.check_stands(part, *plain.stands(many), many)
                    self.assertEqual(repr(part.log()), "[]")
                for back in range(many - 1, -1, -1):
                    self.assertIs(part.undo(), True)
                    self.check_stands(part, *plain.stands(back), back)
                self.assertIs(part.undo(), False)
                self.assertEqual(part.log(), [("in", "undo"), ("out", "undo")] * (many + 1))
            self.check_as(pile, plain)
            self.assertEqual(pile.log(), plain.log)
            self.check_goes_its_own_way(draw, pile, plain)

    def check_goes_its_own_way(self, draw, pile, plain):
        """Deeds of an as_of change nothing of the pile, nor its deeds of that."""
        many = draw.randint(0, pile.deeds())
        part, own = pile.as_of(many), Plain(*plain.first)
        own.standing = plain.standing[:many]
        for _ in range(8):
            word, args = drawn_deed(draw, *own.stands()[:2])
            self.assertEqual(tell(part, word, args), own.do(word, args))
            word, args = drawn_deed(draw, *plain.stands()[:2])
            self.assertEqual(tell(pile, word, args), plain.do(word, args))
        self.check_as(part, own)
        self.assertEqual(part.log(), own.log)
        self.check_as(pile, plain)
        self.assertEqual(pile.log(), plain.log)

    def test_as_of_any_other_number(self):
        pile = Pile(("a", "b"))
        for deeds in range(4):
            for many in NUMBERS:
                if 0 <= many <= deeds:
                    self.assertEqual(pile.as_of(many).deeds(), many)
                else:
                    with self.assertRaises(NoDeed) as held:
                        pile.as_of(many)
                    self.assertIs(held.exception.many, many)
            pile.lay("b")

    def test_as_of_undone_deeds(self):
        pile = Pile(("a", "b"))
        pile.lay("b")
        pile.lay("a")
        pile.undo()
        with self.assertRaises(NoDeed):
            pile.as_of(2)
        pile.tie("a", "b")
        self.check_stands(pile.as_of(2), ("b", "a"), (("a", "b"),), {"b": 1}, 2)

    def test_twin(self):
        for pile, plain in drawn_piles(211, 50):
            twin = pile.twin()
            self.assertIs(type(twin), Pile)
            self.check_as(twin, plain)
            self.assertEqual(repr(twin.log()), "[]")
            self.assertEqual(twin, pile)
            twin.add("twin") if len(twin) < 12 else twin.take(twin.heap()[0])
            self.assertNotEqual(twin, pile)
            self.check_as(pile, plain)
            for _ in range(pile.deeds()):
                pile.undo()
            self.assertEqual(twin.deeds(), len(plain.standing) + 1)

    def test_asking_is_not_noted(self):
        pile = Pile(HEAP, TIES)
        pile.lay("c")
        log = [("in", "lay"), ("out", "lay")]
        for ask in (pile.heap, pile.ties, pile.may_go, pile.deeds, pile.twin, pile.log):
            ask()
            self.assertEqual(pile.log(), log)
        pile.told(HEAP), pile.went("a"), pile.as_of(0), len(pile), repr(pile), pile == pile
        self.assertEqual(pile.log(), log)
        for refused_ask in (lambda: pile.as_of(7), lambda: pile.told(("z",))):
            with self.assertRaises((NoDeed, Unlike)):
                refused_ask()
            self.assertEqual(pile.log(), log)


class Logs(unittest.TestCase):
    def test_both_ends_of_each_deed(self):
        pile = Pile(("a", "b"))
        words = []
        for word, args in (
            ("lay", ("b",)), ("lay", ("z",)), ("go", (["a", "b", "a"],)), ("go", ([],)), ("go", (["a", "z"],)),
            ("tie", ("a", "b")), ("tie", ("a", "b")), ("tie", ("a", "a")), ("tie", ("z", "a")), ("untie", ("a", "b")),
            ("untie", ("a", "b")), ("untie", (None, "b")), ("add", ("c",)), ("add", ("c",)), ("add", ("C",)),
            ("add", ("d", 9)), ("take", ("c",)), ("take", ("c",)), ("undo", ()), ("take", ("a",)), ("take", ("b",)),
        ) + (("undo", ()),) * 12:
            tell(pile, word, args)
            words.append(word)
            told = pile.log()
            self.assertEqual(repr(told), repr([(end, each) for each in words for end in ("in", "out")]))
        self.assertEqual(pile.deeds(), 0)

    def test_last_is_noted(self):
        pile = Pile(("a",))
        tell(pile, "take", ("a",))
        tell(pile, "undo", ())
        self.assertEqual(pile.log(), [("in", "take"), ("out", "take"), ("in", "undo"), ("out", "undo")])

    def test_full_is_noted(self):
        pile = Pile(BOOKS)
        tell(pile, "add", ("z",))
        self.assertEqual(pile.log(), [("in", "add"), ("out", "add")])

    def test_undone_deeds_stay_noted(self):
        pile = Pile(("a", "b"))
        pile.lay("b")
        pile.undo()
        self.assertEqual(pile.log(), [("in", "lay"), ("out", "lay"), ("in", "undo"), ("out", "undo")])


class Equal(unittest.TestCase):
    def test_by_heap_and_ties_alone(self):
        one, other = Pile(("a", "b"), (("a", "b"),)), Pile(["b", "a"])
        self.assertFalse(one == other)
        self.assertTrue(one != other)
        other.lay("a")
        self.assertFalse(one == other)
        other.tie("a", "b")
        self.assertTrue(one == other)
        self.assertTrue(other == one)
        self.assertFalse(one != other)
        self.assertNotEqual(one.log(), other.log())
        one.tie("b", "a")
        self.assertFalse(one == other)

    def test_all_small_piles(self):
        kinds = [(heap, ties) for heap in (("a",), ("b",), ("a", "b"), ("b", "a"))
                 for ties in ((), (("a", "b"),), (("b", "a"),)) if len(heap) == 2 or not ties]
        for one, other in itertools.product(kinds, repeat=2):
            self.assertIs(Pile(*one) == Pile(*other), one == other)
            self.assertIs(Pile(*one) != Pile(*other), one != other)

    def test_to_nothing_else(self):
        pile = Pile(("a", "b"), (("a", "b"),))
        for thing in ODD + [("a", "b"), (("a", "b"), (("a", "b"),)), repr(pile), [pile], {}, object()]:
            self.assertIs(pile == thing, False)
            self.assertIs(thing == pile, False)
            self.assertIs(pile != thing, True)

    def test_len_and_repr(self):
        for heap, ties, words in (
            (("a",), (), "Pile(1 books, 0 ties)"), (("a", "b"), (("a", "b"),), "Pile(2 books, 1 ties)"),
            (("a", "b", "c"), (("a", "b"), ("b", "c")), "Pile(3 books, 2 ties)"),
            (BOOKS, tuple(sorted(itertools.permutations(BOOKS, 2))), "Pile(12 books, 132 ties)"),
        ):
            self.assertEqual(repr(Pile(heap, ties)), words)
            self.assertEqual(len(Pile(heap, ties)), len(heap))


class Conventions(Checks):
    def test_what_is_handed_in_is_not_kept(self):
        heap, ties, row = ["a", "b", "c"], [["a", "b"], ["b", "a"]], ["c", "b"]
        pile = Pile(heap, ties)
        pile.go(row)
        heap.reverse()
        ties[0].reverse()
        ties.append(["c", "a"])
        row.append("a")
        self.check_stands(pile, ("b", "c", "a"), (("a", "b"), ("b", "a")), {"b": 1, "c": 1}, 1)
        self.check_stands(pile.as_of(0), ("a", "b", "c"), (("a", "b"), ("b", "a")), {}, 0)

    def test_what_is_handed_in_is_not_changed(self):
        heap, ties, row, other = ["a", "b"], [["a", "b"]], ["b", "a"], ["b", "a"]
        pile = Pile(heap, ties)
        pile.go(row)
        pile.told(other)
        pile.tie("b", "a")
        pile.take("a")
        self.assertEqual((heap, ties, row, other), (["a", "b"], [["a", "b"]], ["b", "a"], ["b", "a"]))

    def test_what_is_told_is_the_askers_own(self):
        pile = Pile(HEAP, TIES)
        told = [pile.go(["c", "a"]), pile.may_go(), pile.log(), pile.told(HEAP)[1], pile.log(), pile.may_go()]
        self.assertEqual(len({id(each) for each in told}), len(told))
        log, may_go = pile.log(), pile.may_go()
        for each in told:
            each.append("changed")
            each.reverse()
        self.assertEqual(pile.log(), log)
        self.assertEqual(pile.may_go(), may_go)
        self.check_stands(pile, ("a", "c", "b", "d"), TIES, {"a": 1, "c": 1}, 1)

    def test_asking(self):
        for pile, plain in drawn_piles(212, 12):
            heap = plain.stands()[0]
            for ask in (pile.heap, pile.ties, pile.may_go, pile.deeds, pile.log, pile.twin):
                check_asking(self, ask, {})
            check_asking(self, pile.told, {"other": heap[::-1]})
            check_asking(self, pile.told, {"other": heap + ("other",)})
            check_asking(self, pile.as_of, {"many": pile.deeds() // 2})
            check_asking(self, pile.as_of, {"many": -1})
            for thing in SHOWN_ODD:
                check_asking(self, pile.went, {"book": thing}, exact=("book",))
            self.check_as(pile, plain)
            self.assertEqual(pile.log(), plain.log)

    def test_two_piles_share_nothing(self):
        one, other = Pile(HEAP, TIES), Pile(HEAP, TIES)
        one.lay("c")
        one.take("b")
        self.check_stands(other, HEAP, TIES, {}, 0)
        self.assertEqual(other.log(), [])


if __name__ == "__main__":
    unittest.main()
