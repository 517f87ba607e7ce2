"""Whether a thing shows that one heap leads to another, or that it doesn't."""

from heapfriends.between import refuse_unlike
from heapfriends.laying import first_refused, left_by
from heapfriends.rings import ring_number, shows_ring


def is_row(heap, thing):
    return isinstance(thing, list) and all([book in heap for book in thing])


def shows_row(heap, other, ties, thing):
    refuse_unlike(heap, other)
    if not is_row(heap, thing) or first_refused(heap, ties, thing) is not None:
        return False
    return left_by(heap, thing) == tuple(other)


def shows_bar(heap, other, ties, thing):
    refuse_unlike(heap, other)
    if not shows_ring(ties, thing):
        return False
    return ring_number(other, thing) > ring_number(heap, thing)
