"""Which deeds can be gone back, and the way back behind a row."""

from heapfriends.between import between, leads
from heapfriends.errors import Lost
from heapfriends.laying import done, laid


def can_go_back(heap, ties, book):
    return leads(laid(heap, ties, book), heap, ties)


def first_lost(heap, ties, row):
    # A row that isn't let is refused, even where a deed ahead of the refused one is lost.
    done(heap, ties, row)
    standing = heap
    for place, book in enumerate(row):
        if not can_go_back(standing, ties, book):
            return place
        standing = laid(standing, ties, book)
    return None


def way_back(heap, ties, row):
    place = first_lost(heap, ties, row)
    if place is not None:
        raise Lost(place)
    # No deed is lost, so this is a row, never a ring.
    return between(done(heap, ties, row), heap, ties)[1]
