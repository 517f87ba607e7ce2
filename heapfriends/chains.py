"""Chains of links (book, number), each of which shows that its book goes at least so often."""

from heapfriends.between import gain, refuse_unlike
from heapfriends.errors import NoBook
from heapfriends.heaps import friends_of, lies_above
from heapfriends.least import led_goings
from heapfriends.ways import walked, way_to


def first_links(heap, other):
    """Of each book that lies right above one in other, and beneath it in heap."""
    return [(other[at], 1) for at in range(len(other) - 1) if lies_above(heap, other[at + 1], other[at])]


def next_links(heap, other, ties, link):
    book, number = link
    above = [(lain, 1) for lain in other[:other.index(book)]]
    forced = [(friend, number + gain(heap, other, book, friend)) for friend in friends_of(ties, book)]
    return above + [(friend, often) for friend, often in forced if often >= 1]


def chain(heap, other, ties, book):
    least = led_goings(heap, other, ties)
    if book not in heap:
        raise NoBook(book)
    if least[book] == 0:
        return None
    # It ends, since no chain tells a number above the least one, where heap leads to other.
    before = walked(first_links(heap, other), lambda link: next_links(heap, other, ties, link))
    return way_to(before, (book, least[book]))


def is_link(heap, thing):
    if not isinstance(thing, tuple) or len(thing) != 2 or thing[0] not in heap:
        return False
    return isinstance(thing[1], int) and not isinstance(thing[1], bool) and thing[1] >= 1


def shows_chain(heap, other, ties, thing):
    refuse_unlike(heap, other)
    if not isinstance(thing, list) or len(thing) == 0:
        return False
    # True is equal to 1, so the kinds are looked at first.
    if not all([is_link(heap, link) for link in thing]):
        return False
    if thing[0] not in first_links(heap, other):
        return False
    return all([thing[at] in next_links(heap, other, ties, thing[at - 1]) for at in range(1, len(thing))])
