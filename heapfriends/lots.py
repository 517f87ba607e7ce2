"""Lots of heaps that lead to one another, told by readings of the ties within knots."""

from heapfriends.between import leads, refuse_unlike
from heapfriends.heaps import friends_of, lies_above
from heapfriends.rings import knots
from heapfriends.ways import walked


def alike(heap, other, ties):
    return leads(heap, other, ties) and leads(other, heap, ties)


def heights(heap, ties, knot):
    """A dict of the heights of a knot's books."""
    before = walked(knot[:1], lambda book: [friend for friend in friends_of(ties, book) if friend in knot])
    height = {}
    for book, fan in before.items():
        height[book] = 0 if fan is None else height[fan] + int(lies_above(heap, book, fan))
    return height


def reading(heap, ties):
    told = []
    for knot in knots(ties):
        height = heights(heap, ties, knot)
        for book, friend in ties:
            if book in height and friend in height:
                number = height[book] - height[friend] + int(lies_above(heap, friend, book))
                told.append((book, friend, number))
    return sorted(told)


def lots_of(heaps, ties):
    for heap in heaps:
        refuse_unlike(heaps[0], heap)
    lots = {}
    for place, heap in enumerate(heaps):
        # Heaps are alike just where their readings are, and a reading is far sooner told than what leads to what.
        lots.setdefault(tuple(reading(heap, ties)), []).append(place)
    return list(lots.values())
