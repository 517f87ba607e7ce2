"""[1] (a) to (h) over the whole program, on drawn heaps and ties; against plain searches where the heaps are small."""

import itertools
import random
import unittest

from heapfriends.back import can_go_back, first_lost, way_back
from heapfriends.between import between, leads
from heapfriends.chains import chain, shows_chain
from heapfriends.checks import shows_bar, shows_row
from heapfriends.desk import answers
from heapfriends.errors import Apart, Barred, Gap, Stopped, TooMany
from heapfriends.laying import done, first_refused, left_by, may_go
from heapfriends.learned import one_more, ties_let, ties_of_all
from heapfriends.least import fewest, goings, wasted
from heapfriends.lifting import lift, must_go, shows_must, why_must
from heapfriends.lots import alike, lots_of, reading
from heapfriends.many import all_led, led_many, lot_many, lots_many
from heapfriends.otherwise import called, only, piled, turned
from heapfriends.pile import Pile
from heapfriends.repeats import again, is_endless
from heapfriends.rings import ring_number, rings
from heapfriends.shortest import cheapest, first_row, next_ones
from heapfriends.sightings import history, in_order
from heapfriends.texts import heap_in, heap_text, ties_in, ties_text
from helper import (
    drawn_barred, drawn_heaps, drawn_led, drawn_pairs, drawn_row, fewest_from, is_let, led_to, left, moved,
    outcome, refused_place, rings_by_trial,
)


class RowsAndRings(unittest.TestCase):
    """(a)"""

    def check_never_both(self, heap, other, ties):
        kind, told = between(heap, other, ties)
        self.assertIs(leads(heap, other, ties), kind == "row")
        self.assertIs(shows_row(heap, other, ties, told), kind == "row")
        self.assertIs(shows_bar(heap, other, ties, told), kind == "ring")
        return kind

    def test_against_a_plain_search(self):
        kinds = set()
        for heap, other, ties in drawn_pairs(220, 250, most=5):
            led = other in led_to(heap, ties)
            grown = [ring for ring in rings_by_trial(ties) if ring_number(other, ring) > ring_number(heap, ring)]
            self.assertEqual(led, not grown)
            self.assertEqual(self.check_never_both(heap, other, ties), "row" if led else "ring")
            kinds.add(led)
        self.assertEqual(kinds, {False, True})

    def test_twelve_books(self):
        for heap, other, ties in drawn_pairs(221, 100, least=12):
            kind = self.check_never_both(heap, other, ties)
            try:
                every = rings(ties)
            except TooMany:
                continue
            self.assertEqual(any(shows_bar(heap, other, ties, ring) for ring in every), kind == "ring")
        for heap, other, ties, row in drawn_led(222, 60, least=12):
            self.assertEqual(self.check_never_both(heap, other, ties), "row")
            self.assertIs(shows_row(heap, other, ties, row), True)
        for heap, other, ties in drawn_barred(223, 60, least=12):
            self.assertEqual(self.check_never_both(heap, other, ties), "ring")

    def test_called_otherwise_and_turned_about(self):
        # A ring turned about has the other friends above, so what is led to from other is led to from heap.
        draw = random.Random(224)
        for heap, other, ties in drawn_pairs(224, 100):
            names = dict(zip(heap, draw.sample(heap, len(heap))))
            there, tied = called(other, ties, names)
            self.assertIs(leads(called(heap, ties, names)[0], there, tied), leads(heap, other, ties))
            self.assertIs(leads(other, heap, turned(ties)), leads(heap, other, ties))


class FewestGoings(unittest.TestCase):
    """(b)"""

    def check_chains(self, heap, other, ties):
        numbers = goings(heap, other, ties)
        for book, number in numbers:
            shown = chain(heap, other, ties, book)
            if number == 0:
                self.assertIsNone(shown)
            else:
                self.assertEqual(shown[-1], (book, number))
                self.assertIs(shows_chain(heap, other, ties, shown), True)
        return numbers

    def test_against_a_plain_search(self):
        for heap, other, ties, _ in drawn_led(225, 60, most=5, longest=10):
            numbers = self.check_chains(heap, other, ties)
            self.assertEqual(numbers, [(book, fewest_from(heap, ties, book)[other]) for book in sorted(heap)])

    def test_all_stand_in_one_row(self):
        draw = random.Random(226)
        for heap, other, ties, row in drawn_led(226, 40):
            numbers = self.check_chains(heap, other, ties)
            prices = {book: draw.randint(0, 10 ** 12) for book in heap}
            price, cheap = cheapest(heap, other, ties, prices)
            for told in (between(heap, other, ties)[1], first_row(heap, other, ties), cheap):
                self.assertEqual([(book, told.count(book)) for book in sorted(heap)], numbers)
                self.assertEqual(wasted(heap, other, ties, told), [])
            self.assertEqual(price, sum(prices[book] * number for book, number in numbers))
            self.assertEqual(wasted(heap, other, ties, row), [
                (book, row.count(book) - number) for book, number in numbers if row.count(book) > number])
            self.assertEqual(fewest(heap, other, ties), sum(number for _, number in numbers))
            self.assertEqual(next_ones(heap, other, ties)[:1], first_row(heap, other, ties)[:1])

    def test_barred(self):
        for heap, other, ties in drawn_barred(227, 30):
            for ask in (goings, fewest, first_row, next_ones):
                with self.assertRaises(Barred) as held:
                    ask(heap, other, ties)
                self.assertIs(shows_bar(heap, other, ties, held.exception.ring), True)


class GoneBackAndLots(unittest.TestCase):
    """(c)"""

    def test_against_a_plain_search(self):
        for heap, ties in drawn_heaps(228, 25, most=4):
            orders = list(itertools.permutations(heap))
            led = {order: led_to(order, ties) for order in orders}
            for other in orders:
                both = other in led[heap] and heap in led[other]
                self.assertIs(alike(heap, other, ties), both)
                self.assertEqual(reading(heap, ties) == reading(other, ties), both)
            lots = {frozenset(other for other in led[order] if order in led[other]) for order in orders}
            self.assertEqual(led_many(heap, ties), len(led[heap]))
            self.assertEqual(all_led(heap, ties), sorted(led[heap]))
            self.assertEqual(lot_many(heap, ties), len([other for other in led[heap] if heap in led[other]]))
            self.assertEqual(lots_many(heap, ties), len(lots))
            self.assertEqual(len(lots_of(orders, ties)), len(lots))
            for book in heap:
                if is_let(heap, ties, book):
                    self.assertIs(can_go_back(heap, ties, book), heap in led[moved(heap, book)])

    def test_twelve_books(self):
        ends = set()
        for heap, other, ties, row in drawn_led(229, 60, least=12):
            place = first_lost(heap, ties, row)
            back = outcome(way_back, heap, ties, row)
            ends.add(place is None)
            self.assertIs(alike(heap, other, ties), place is None)
            self.assertIs(reading(heap, ties) == reading(other, ties), place is None)
            self.assertEqual(back.startswith("refused Lost"), place is not None)
            self.assertEqual(lots_of([heap, other], ties), [[0, 1]] if place is None else [[0], [1]])
        self.assertEqual(ends, {False, True})


class WhoMustGo(unittest.TestCase):
    """(d)"""

    def all_goers(self, heap, ties):
        found = {(heap, frozenset())}
        waiting = list(found)
        while waiting:
            here, gone = waiting.pop()
            for book in may_go(here, ties):
                state = (moved(here, book), gone | {book})
                if state not in found:
                    found.add(state)
                    waiting.append(state)
        return {gone for _, gone in found}

    def test_against_a_plain_search(self):
        draw = random.Random(230)
        for heap, ties in drawn_heaps(230, 60, most=4):
            books = draw.sample(heap, draw.randint(0, len(heap)))
            goers = [gone for gone in self.all_goers(heap, ties) if gone >= set(books)]
            self.assertEqual(must_go(heap, ties, books), sorted(frozenset.intersection(*goers)))

    def test_each_once_from_the_lowest_up(self):
        draw = random.Random(231)
        for heap, ties in drawn_heaps(231, 80):
            books = draw.sample(heap, draw.randint(0, len(heap)))
            row = lift(heap, ties, books)
            self.assertEqual(row, [book for book in heap[::-1] if book in must_go(heap, ties, books)])
            self.assertIsNone(first_refused(heap, ties, row))
            for book in heap:
                why = why_must(heap, ties, books, book)
                self.assertIs(shows_must(heap, ties, books, why), book in row)


class LostOrders(unittest.TestCase):
    """(e)"""

    def test_an_order_or_two_apart(self):
        draw = random.Random(232)
        kinds = set()
        for heap, ties in drawn_heaps(232, 150):
            seen = [tuple(draw.sample(heap, len(heap))) for _ in range(draw.randint(2, 4))]
            pairs = itertools.combinations(range(len(seen)), 2)
            apart = [pair for pair in pairs if not any(
                leads(seen[one], seen[other], ties) for one, other in (pair, pair[::-1]))]
            kinds.add(len(apart) > 0)
            if apart:
                with self.assertRaises(Apart) as held:
                    in_order(ties, seen)
                self.assertEqual((held.exception.one, held.exception.other), apart[0])
            else:
                first, *others = [seen[place] for place in in_order(ties, seen)]
                self.assertEqual(done(first, ties, history(first, ties, others)), (first, *others)[-1])
        self.assertEqual(kinds, {False, True})

    def test_turned_about_there_are_gaps(self):
        for heap, other, ties in drawn_barred(233, 40):
            with self.assertRaises(Gap) as held:
                history(heap, ties, [heap, heap, other])
            self.assertEqual(held.exception.place, 2)
            self.assertIs(shows_bar(heap, other, ties, held.exception.ring), True)


class LetTwice(unittest.TestCase):
    """(f)"""

    def test_let_for_ever(self):
        draw = random.Random(234)
        kinds = set()
        for heap, ties in drawn_heaps(234, 200):
            row = drawn_row(draw, heap, ties, draw.randint(0, 15))
            twice = refused_place(heap, ties, row * 2)
            self.assertEqual(refused_place(heap, ties, row * 6), twice)
            self.assertIs(is_endless(heap, ties, row), twice is None)
            kinds.add(twice is None)
            if twice is not None:
                with self.assertRaises(Stopped) as held:
                    again(heap, ties, row, 10 ** 12)
                self.assertEqual(held.exception.number, twice)
            else:
                self.assertEqual({left(heap, row * many) for many in range(1, 6)}, {again(heap, ties, row, 10 ** 12)})
        self.assertEqual(kinds, {False, True})


class ByHistories(unittest.TestCase):
    """(g)"""

    def test_just_the_ties_with_which_all_are_let(self):
        draw = random.Random(235)
        for heap, ties in drawn_heaps(235, 60, most=6):
            histories = []
            for _ in range(draw.randint(1, 4)):
                other = tuple(draw.sample(heap, len(heap)))
                histories.append((other, drawn_row(draw, other, ties, draw.randint(0, 12))))
            told = ties_of_all(histories)
            self.assertLessEqual(set(ties), set(told))
            for pair in itertools.permutations(heap, 2):
                let = all(refused_place(other, (pair,), row) is None for other, row in histories)
                self.assertEqual(pair in told, let)
            self.assertTrue(all(refused_place(other, told, row) is None for other, row in histories))

    def test_a_row_that_leads_there_is_let_with_one_more(self):
        for heap, other, ties, row in drawn_led(236, 20, most=7):
            learned = set(ties_let(heap, row)) - set(ties)
            self.assertLessEqual(learned, set(one_more(heap, other, ties)))


class Piles(unittest.TestCase):
    """(h)"""

    def drawn_deeds(self, draw, pile):
        """Deeds of every kind, some of them refused, some undone."""
        for _ in range(draw.randint(0, 30)):
            book, friend = draw.choice(pile.heap()), draw.choice(pile.heap() + ("none",))
            deed = draw.choice((
                lambda: pile.lay(book), lambda: pile.lay(friend), lambda: pile.go(draw.choices(pile.may_go(), k=2)),
                lambda: pile.tie(book, friend), lambda: pile.tie(friend, book), lambda: pile.untie(book, friend),
                lambda: pile.untie(*draw.choice(pile.ties() or (("none", "none"),))),
                lambda: pile.add(friend * 2, draw.randint(-1, 9)), lambda: pile.take(friend), lambda: pile.undo(),
            ))
            outcome(deed)

    def test_what_one_made_anew_tells(self):
        draw = random.Random(237)
        for heap, ties in drawn_heaps(237, 80):
            pile = Pile(heap, ties)
            self.drawn_deeds(draw, pile)
            anew = Pile(pile.heap(), pile.ties())
            self.assertEqual(pile, anew)
            for ask in (Pile.heap, Pile.ties, Pile.may_go, Pile.__len__, Pile.__repr__):
                self.assertEqual(repr(ask(pile)), repr(ask(anew)))
            other = tuple(draw.sample(pile.heap(), len(pile)))
            self.assertEqual(pile.told(other), anew.told(other))
            for book in pile.heap():
                self.assertEqual(outcome(pile.twin().lay, book), outcome(anew.twin().lay, book))
                self.assertEqual(outcome(pile.twin().take, book), outcome(anew.twin().take, book))

    def test_undone_all_the_way(self):
        draw = random.Random(238)
        for heap, ties in drawn_heaps(238, 60):
            pile = Pile(heap, ties)
            self.drawn_deeds(draw, pile)
            stood = [pile.as_of(many) for many in range(pile.deeds() + 1)]
            for many in range(pile.deeds(), -1, -1):
                self.assertEqual(pile, stood[many])
                self.assertEqual([pile.went(book) for book in heap], [stood[many].went(book) for book in heap])
                self.assertIs(pile.undo(), many > 0)
            self.assertEqual((pile.heap(), pile.ties()), (heap, ties))

    def test_a_row_of_deeds_told_to_a_desk(self):
        draw = random.Random(239)
        for heap, ties in drawn_heaps(239, 40, most=6):
            row = drawn_row(draw, heap, ties, 10)
            rows = ["heap " + heap_text(heap)] + ["tie " + " ".join(pair) for pair in ties]
            told = answers("\n".join(rows + ["lay " + book for book in row] + ["heap", "ties", "to " + heap_text(heap)]))
            self.assertEqual(heap_in(told[-3]), left_by(heap, row))
            self.assertEqual(ties_in(told[-2]), ties)
            self.assertEqual(told[-2], ties_text(ties))
            kind, way = between(left_by(heap, row), heap, ties)
            self.assertEqual(told[-1], "ring" if kind == "ring" else "row " + str(len(way)))


class ToldOtherwise(unittest.TestCase):
    def test_heaps_on_one_another_go_for_themselves(self):
        draw = random.Random(240)
        for heap, ties in drawn_heaps(240, 40, least=2, most=6):
            names = {book: book[:4] + "zz" for book in heap}
            lower = called(heap, ties, names)
            whole, tied = piled((heap, ties), lower)
            self.assertEqual(may_go(whole, tied), sorted(may_go(heap, ties) + may_go(*lower)))
            other = tuple(draw.sample(heap, len(heap)))
            there = other + tuple(names[book] for book in other)
            self.assertIs(leads(whole, there, tied), leads(heap, other, ties))
            self.assertEqual(only(whole, tied, list(names.values())), lower)


if __name__ == "__main__":
    unittest.main()
