"""Ties with which histories were let, and ties that one more could be put to."""

from heapfriends.between import leads, refuse_unlike
from heapfriends.laying import on_top


def pairs_of(heap):
    """The rising list of all pairs of unlike books."""
    books = sorted(heap)
    return [(book, friend) for book in books for friend in books if book != friend]


def ties_let(heap, row):
    refuted = {}
    standing = tuple(heap)
    for book in row:
        for beneath in standing[standing.index(book) + 1:]:
            refuted[(book, beneath)] = True
        standing = on_top(standing, book)
    return tuple([pair for pair in pairs_of(heap) if pair not in refuted])


def ties_of_all(histories):
    for heap, row in histories:
        refuse_unlike(histories[0][0], heap)
    let = [ties_let(heap, row) for heap, row in histories]
    return tuple([pair for pair in let[0] if all([pair in ties for ties in let])])


def one_more(heap, other, ties):
    refuse_unlike(heap, other)
    # A pair may be handed in as a list, which is equal to no tuple.
    tied = [(book, friend) for book, friend in ties]
    return [pair for pair in pairs_of(heap) if pair not in tied and leads(heap, other, tied + [pair])]
