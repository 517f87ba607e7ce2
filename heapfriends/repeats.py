"""Rows done again and again.

A row leaves its books on top, by their last goings, and the others beneath as they lay. So behind the first round each
round leaves the same, and where the second one is let, all are.
"""

from heapfriends.errors import Stopped
from heapfriends.laying import first_refused, left_by, refuse_absent


def again(heap, ties, row, many):
    refuse_absent(heap, row)
    # The third round and all behind it go as the second one does.
    rounds = list(row) * min(many, 2)
    number = first_refused(heap, ties, rounds)
    if number is not None:
        raise Stopped(number)
    return left_by(heap, rounds)


def is_endless(heap, ties, row):
    return first_refused(heap, ties, list(row) * 2) is None


def gone(row, many, deeds):
    counted = min(deeds, len(row) * many)
    # The bare row has no deeds by which rounds could be counted.
    if counted == 0:
        return []
    rounds, rest = divmod(counted, len(row))
    often = [(book, rounds * row.count(book) + row[:rest].count(book)) for book in sorted(set(row))]
    return [(book, number) for book, number in often if number > 0]
