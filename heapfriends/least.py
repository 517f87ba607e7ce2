"""The fewest goings of each book from one heap to another: one row has them all."""

from heapfriends.between import growing_ring, least_goings, refuse_unlike
from heapfriends.errors import Barred


def led_goings(heap, other, ties):
    """A dict of how often each book goes at the fewest; refused where heap doesn't lead to other."""
    refuse_unlike(heap, other)
    ring = growing_ring(heap, other, ties)
    if ring is not None:
        raise Barred(ring)
    return least_goings(heap, other, ties)


def goings(heap, other, ties):
    return sorted(led_goings(heap, other, ties).items())


def fewest(heap, other, ties):
    return sum(led_goings(heap, other, ties).values())


def wasted(heap, other, ties, row):
    told = goings(heap, other, ties)
    return [(book, row.count(book) - number) for book, number in told if row.count(book) > number]
