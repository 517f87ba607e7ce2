"""Heaps of books, from the top to the bottom, and the ties of books to their friends."""

LONGEST_NAME = 6


def is_name(thing):
    if not isinstance(thing, str) or not 1 <= len(thing) <= LONGEST_NAME:
        return False
    return all(["a" <= letter <= "z" for letter in thing])


def is_heap(thing):
    if not isinstance(thing, tuple) or len(thing) == 0:
        return False
    if not all([is_name(book) for book in thing]):
        return False
    return len(set(thing)) == len(thing)


def is_tie(heap, thing):
    if not isinstance(thing, tuple) or len(thing) != 2:
        return False
    return thing[0] in heap and thing[1] in heap and thing[0] != thing[1]


def is_ties(heap, thing):
    if not isinstance(thing, tuple):
        return False
    # Only right pairs can be compared with one another, so they are looked at first.
    if not all([is_tie(heap, pair) for pair in thing]):
        return False
    return all([thing[at] < thing[at + 1] for at in range(len(thing) - 1)])


def rising_ties(pairs):
    """The TIES of pairs that may stand in any order."""
    return tuple(sorted([(book, friend) for book, friend in pairs]))


def lies_above(heap, one, other):
    return heap.index(one) < heap.index(other)


def friends_of(ties, book):
    return sorted([friend for fan, friend in ties if fan == book])


def fans_of(ties, book):
    return sorted([fan for fan, friend in ties if friend == book])
