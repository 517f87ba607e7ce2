"""What the tests share: things of every kind, heaps and ties by a seeded draw, and the conventions of [2]."""

import collections
import copy
import itertools
import random

from heapfriends.errors import Barred, Unlike

BOOKS = ("a", "ab", "b", "bell", "c", "d", "dd", "e", "fable", "folder", "g", "h")

HUGE = 10 ** 5000


UNLIKE = (
    (("a", "b"), ("a", "c")), (("a", "b"), ("a",)), (("a",), ("a", "b")), (("a",), ("b",)),
    (("a", "b", "c"), ("c", "b", "d")), (("a", "ab"), ("a", "b")), (BOOKS, BOOKS[:-1]), (BOOKS[1:], BOOKS[:-1]),
)


def nest(kind, inner, depth):
    for _ in range(depth):
        inner = kind([inner])
    return inner


ODD = [
    0, 1, -1, 2, 12, 10 ** 30, HUGE, True, False, None,
    "", "a", "b", "ab", "zz", "abcdef", "abcdefg", "A", "aB", "a1", "1", "a b", " a", "a ", "a-b", "-", "_", "a\n",
    "\u00e9", "\u0430", "a\u0301", "\u00df", "\uff41", "`", "{", "None", "True",
    [], (), [[]], ((),), ([],), [()], ["a"], ("a",), ["a", "b"], ("a", "b"), ["b", "a"], ("b", "a"),
    [("a", "b")], (("a", "b"),), (["a", "b"],), [["a", "b"]], ("a", "b", "c"), ["a", "b", "c"],
    (1, 2), [1, 2], (True, False), [None, None], ("a", 1), ["a", None], ("a", ["b"]), ("a", "b", 3),
    nest(list, "a", 7), nest(tuple, "a", 7), nest(list, None, 8), nest(tuple, 0, 8), nest(list, (), 7),
]

# HUGE can't be shown as a text, so it's left out where answers are compared as texts.
SHOWN_ODD = [thing for thing in ODD if thing is not HUGE]


def variants(thing):
    """Everything that one change at any one place makes of the thing, the thing itself too."""
    yield thing
    yield from ODD
    if isinstance(thing, str):
        yield from (thing + "a", thing + "A", thing + "7", thing + " ", thing * 7, thing.upper(), thing[:-1])
    if isinstance(thing, (list, tuple)):
        kind, other = (list, tuple) if isinstance(thing, list) else (tuple, list)
        yield from (other(thing), thing[::-1], thing + thing, thing + thing[:1], kind([thing]), other([thing]))
        for at, inner in enumerate(thing):
            yield thing[:at] + thing[at + 1:]
            yield thing[:at] + thing[at:at + 1] + thing[at:]
            yield thing[at:] + thing[:at]
            for changed in variants(inner):
                yield thing[:at] + kind([changed]) + thing[at + 1:]


def drawn_heaps(seed, many, least=1, most=12):
    """Pairs (heap, ties): so many by a draw that is the same each time."""
    draw = random.Random(seed)
    for _ in range(many):
        heap = drawn_heap(draw, draw.randint(least, most))
        yield heap, drawn_ties(draw, heap)


def drawn_pairs(seed, many, least=1, most=12):
    """Triples (heap, other, ties)."""
    draw = random.Random(seed)
    for heap, ties in drawn_heaps(seed, many, least, most):
        yield heap, tuple(draw.sample(heap, len(heap))), ties


def drawn_led(seed, many, least=1, most=12, longest=60):
    """Quadruples (heap, other, ties, row): the row is let and leaves other."""
    draw = random.Random(seed)
    for heap, ties in drawn_heaps(seed, many, least, most):
        row = drawn_row(draw, heap, ties, draw.randint(0, longest))
        yield heap, left(heap, row), ties, row


def drawn_barred(seed, many, least=3, most=12):
    """Triples (heap, other, ties): at least one ring, drawn for it, has a greater number in other."""
    draw = random.Random(seed)
    found = 0
    while found < many:
        heap = drawn_heap(draw, draw.randint(least, most))
        other = tuple(draw.sample(heap, len(heap)))
        ring = draw.sample(heap, draw.randint(3, len(heap)))
        if number_of(other, ring) > number_of(heap, ring):
            found += 1
            yield heap, other, tuple(sorted({*drawn_ties(draw, heap), *zip(ring, ring[1:] + ring[:1])}))


def drawn_heap(draw, many):
    return tuple(draw.sample(BOOKS, many))


def drawn_ties(draw, heap):
    share = draw.choice((0, 0.1, 0.2, 0.3, 0.5, 0.8, 1))
    return tuple(sorted(pair for pair in itertools.permutations(heap, 2) if draw.random() < share))


def all_ties(heap):
    """All TIES that the heap can have."""
    pairs = sorted(itertools.permutations(heap, 2))
    for chosen in itertools.product((False, True), repeat=len(pairs)):
        yield tuple(pair for pair, taken in zip(pairs, chosen) if taken)


def is_let(heap, ties, book):
    return all(heap.index(friend) < heap.index(book) for fan, friend in ties if fan == book)


def moved(heap, book):
    rest = list(heap)
    rest.remove(book)
    return tuple([book] + rest)


def left(heap, row):
    for book in row:
        heap = moved(heap, book)
    return tuple(heap)


def refused_place(heap, ties, row):
    for place, book in enumerate(row):
        if not is_let(heap, ties, book):
            return place
        heap = moved(heap, book)
    return None


def drawn_row(draw, heap, ties, many):
    """A ROW of so many deeds that's let; of fewer where no book may go any longer."""
    row = []
    for _ in range(many):
        free = [book for book in heap if is_let(heap, ties, book)]
        if not free:
            break
        row.append(draw.choice(free))
        heap = moved(heap, row[-1])
    return row


def least_costs(heap, ties, prices):
    """By a plain search: a dict of what a row costs at the least to each heap that's led to."""
    least = {heap: 0}
    waiting = collections.deque([heap])
    while waiting:
        here = waiting.popleft()
        for mover in here:
            if is_let(here, ties, mover):
                there, price = moved(here, mover), least[here] + prices[mover]
                if price < least.get(there, price + 1):
                    least[there] = price
                    waiting.append(there)
    return least


def fewest_from(heap, ties, book):
    """By a plain search: a dict of how often the book goes at the fewest to each heap that's led to."""
    return least_costs(heap, ties, {mover: int(mover == book) for mover in heap})


def led_to(heap, ties):
    """By a plain search: all heaps that are led to."""
    return set(least_costs(heap, ties, dict.fromkeys(heap, 0)))


def is_ring(ties, thing):
    if type(thing) is not list or len(thing) < 2 or not all(type(book) is str for book in thing):
        return False
    turns = list(zip(thing, thing[1:] + thing[:1]))
    return len(set(thing)) == len(thing) and set(turns) <= set(ties)


def number_of(heap, ring):
    return sum(heap.index(friend) < heap.index(book) for book, friend in zip(ring, ring[1:] + ring[:1]))


def rings_by_trial(ties):
    """All rings, each begun with its least book: every order of every choice of books is tried."""
    books = sorted({book for pair in ties for book in pair})
    found = []
    for many in range(2, len(books) + 1):
        for order in itertools.permutations(books, many):
            if order[0] == min(order) and is_ring(ties, list(order)):
                found.append(list(order))
    return sorted(found)


def round_ties(ring):
    return tuple(sorted(zip(ring, ring[1:] + ring[:1])))


def knots_by_trial(ties):
    near = {}
    for book in {book for pair in ties for book in pair}:
        near[book] = {book}
        while True:
            more = near[book] | {friend for fan, friend in ties if fan in near[book]}
            if more == near[book]:
                break
            near[book] = more
    found = {tuple(sorted(mate for mate in near[book] if book in near[mate])) for book in near}
    return sorted(list(knot) for knot in found if len(knot) > 1)


# All signs of texts that are promised, and the line feed.
SIGNS = "".join(chr(code) for code in range(32, 127) if chr(code) != "%") + "\n"


def texts_near(text, signs=SIGNS):
    """All texts with one sign otherwise, one less or one more at any place, and the text itself."""
    yield text
    for at in range(len(text) + 1):
        yield text[:at] + text[at + 1:]
        for sign in signs:
            yield text[:at] + sign + text[at:]
            yield text[:at] + sign + text[at + 1:]


def outcome(function, *places, **named):
    """A text of what is told or refused, in which True isn't 1 and a list is no tuple."""
    try:
        return "told " + repr(function(*places, **named))
    except (ValueError, LookupError, RuntimeError, OverflowError) as refusal:
        return "refused " + type(refusal).__name__ + repr(vars(refusal))


def rebuilt(value, choose):
    """The value with each list and tuple in it made of the kind that choose tells."""
    if not isinstance(value, (list, tuple)):
        return value
    return choose(value)([rebuilt(inner, choose) for inner in value])


def always_list(value):
    return list


def always_tuple(value):
    return tuple


def turned_kind(value):
    return tuple if isinstance(value, list) else list


def lists_in(value):
    if not isinstance(value, (list, tuple)):
        return []
    found = [value] if isinstance(value, list) else []
    for inner in value:
        found += lists_in(inner)
    return found


def check_asking(case, function, named, exact=("thing",)):
    """All that [2] promises of asking; the arguments named in exact are handed in just as they are."""
    before = repr(named)
    first = outcome(function, *named.values())
    case.assertEqual(first, outcome(function, *named.values()))
    for order in itertools.permutations(named):
        case.assertEqual(first, outcome(function, **{name: named[name] for name in order}))
    for choose in (always_list, always_tuple, turned_kind):
        check_other_kinds(case, function, named, exact, choose, first)
    case.assertEqual(before, repr(named))
    if first.startswith("told "):
        check_told(case, function, named, first)
    case.assertEqual(before, repr(named))


def check_other_kinds(case, function, named, exact, choose, first):
    handed = {name: value if name in exact else rebuilt(value, choose) for name, value in named.items()}
    before = repr(handed)
    case.assertEqual(first, outcome(function, **handed))
    case.assertEqual(before, repr(handed))


def check_told(case, function, named, first):
    """What is told is the asker's own: no list of it is shared, and changing it changes no later answer."""
    handed = copy.deepcopy(named)
    told = function(**handed)
    lists = lists_in(told)
    case.assertEqual(len(lists), len({id(each) for each in lists}))
    theirs = {id(each) for value in handed.values() for each in lists_in(value)}
    case.assertFalse([each for each in lists if id(each) in theirs])
    for each in lists:
        each.append("changed")
        each.reverse()
    case.assertEqual(first, outcome(function, **handed))
    case.assertEqual(repr(named), repr(handed))


def check_unlike(case, ask, *more):
    """Heaps that haven't the same books are refused ahead of all."""
    for heap, other in UNLIKE:
        for ties in ((), tuple(itertools.permutations(sorted(heap), 2))):
            for one, two in ((heap, other), (list(heap), other), (other, heap)):
                with case.assertRaises(Unlike):
                    ask(one, two, ties, *more)


def check_barred(case, ask, *more):
    """Where a heap doesn't lead to the other, it's refused with a ring whose number is greater there."""
    for heap, other, ties in drawn_barred(99, 60):
        for _ in range(2):
            with case.assertRaises(Barred) as held:
                ask(heap, other, ties, *more)
            ring = held.exception.ring
            case.assertTrue(is_ring(ties, ring))
            case.assertGreater(number_of(other, ring), number_of(heap, ring))
            # The ring that is told is the asker's own, so the next one told is none the worse for it.
            ring.append("changed")
