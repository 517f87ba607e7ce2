"""Rings of friends, each next one a friend of the one before, and the knots in which they lie."""

from heapfriends.errors import TooMany
from heapfriends.heaps import friends_of, lies_above
from heapfriends.limits import MOST_RINGS


def ring_ties(ring):
    """The pairs (book, friend) round the ring, the last book's first."""
    return [(ring[at - 1], ring[at]) for at in range(len(ring))]


def shows_ring(ties, thing):
    if not isinstance(thing, list) or len(thing) < 2:
        return False
    # Only texts are sure to be fit for a set or a key.
    if not all([isinstance(book, str) for book in thing]) or len(set(thing)) != len(thing):
        return False
    tied = {(book, friend): True for book, friend in ties}
    return all([pair in tied for pair in ring_ties(thing)])


def ring_number(heap, ring):
    return len([book for book, friend in ring_ties(ring) if lies_above(heap, friend, book)])


def tied_books(ties):
    return sorted({book for pair in ties for book in pair})


def come_to(friends, book, barred):
    """A dict of all that are come to from the book by one tie or more, past none that's barred."""
    found = {}
    waiting = [book]
    while waiting:
        here = waiting.pop()
        for friend in friends[here]:
            if friend not in found and friend not in barred:
                found[friend] = True
                waiting.append(friend)
    return found


def rings(ties):
    books = tied_books(ties)
    friends = {book: friends_of(ties, book) for book in books}
    found = []
    for at, least in enumerate(books):
        gather_rings(friends, books[:at], [least], found)
    return found


def gather_rings(friends, smaller, path, found):
    """Puts all rings that begin with the path, rising, to what is found; none has a smaller book."""
    first = path[0]
    for friend in friends[path[-1]]:
        if friend == first:
            found.append(list(path))
            if len(found) > MOST_RINGS:
                raise TooMany(MOST_RINGS)
        elif friend not in smaller and friend not in path:
            # Ways that can't come back are left at once: there may be far more of them than rings.
            if first in come_to(friends, friend, smaller + path[1:]):
                gather_rings(friends, smaller, path + [friend], found)


def knots(ties):
    books = tied_books(ties)
    friends = {book: friends_of(ties, book) for book in books}
    reach = {book: come_to(friends, book, []) for book in books}
    found = []
    for book in books:
        knot = [mate for mate in books if mate in reach[book] and book in reach[mate]]
        # A book on no ring doesn't come to itself, so its knot is bare.
        if knot and knot[0] == book:
            found.append(knot)
    return found
