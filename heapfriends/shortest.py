"""Rows of the fewest goings: the first of them, how many there are, and the cheapest."""

from heapfriends.between import leads, row_of
from heapfriends.errors import TooMany
from heapfriends.laying import may_go, on_top
from heapfriends.least import fewest, led_goings
from heapfriends.limits import MOST_GOINGS


def next_ones(heap, other, ties):
    many = fewest(heap, other, ties)
    return [book for book in may_go(heap, ties) if leads_in(on_top(heap, book), other, ties, many - 1)]


def leads_in(heap, other, ties, many):
    """Whether so many goings, at the fewest, lead to other."""
    return leads(heap, other, ties) and fewest(heap, other, ties) == many


def first_row(heap, other, ties):
    row = []
    standing = heap
    begun = next_ones(heap, other, ties)
    # None begins a row just where other is come to.
    while begun:
        row.append(begun[0])
        standing = on_top(standing, begun[0])
        begun = next_ones(standing, other, ties)
    return row


def rows_many(heap, other, ties):
    many = fewest(heap, other, ties)
    if many > MOST_GOINGS:
        raise TooMany(many)
    return rows_from(tuple(heap), other, ties, {})


def rows_from(heap, other, ties, known):
    """How many rows there are from a heap; known keeps what was told of each, since many rows share heaps."""
    if heap not in known:
        begun = next_ones(heap, other, ties)
        behind = [rows_from(on_top(heap, book), other, ties, known) for book in begun]
        # Where other is come to, the bare row is the only one.
        known[heap] = sum(behind) if begun else 1
    return known[heap]


def cheapest(heap, other, ties, prices):
    # No book goes more seldom in any row, so no row costs less, whatever the prices.
    least = led_goings(heap, other, ties)
    price = sum([prices[book] * least[book] for book in heap])
    return (price, row_of(other, least))
