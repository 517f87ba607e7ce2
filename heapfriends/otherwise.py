"""Heaps and ties told otherwise: called by other names, turned about, put on one another, or of some books only."""

from heapfriends.errors import Shared
from heapfriends.heaps import rising_ties


def called(heap, ties, names):
    lain = tuple([names[book] for book in heap])
    return (lain, rising_ties([(names[book], names[friend]) for book, friend in ties]))


def turned(ties):
    return rising_ties([(friend, book) for book, friend in ties])


def piled(upper, lower):
    upper_heap, upper_ties = upper
    lower_heap, lower_ties = lower
    shared = sorted([book for book in upper_heap if book in lower_heap])
    if shared:
        raise Shared(shared[0])
    return (tuple(upper_heap) + tuple(lower_heap), rising_ties(list(upper_ties) + list(lower_ties)))


def only(heap, ties, books):
    lain = tuple([book for book in heap if book in books])
    return (lain, rising_ties([(book, friend) for book, friend in ties if book in books and friend in books]))
