"""Which heap leads to which: a row of the fewest goings, or a ring of which more friends lie above in the other."""

from heapfriends.errors import Unlike
from heapfriends.heaps import lies_above


def refuse_unlike(heap, other):
    if sorted(heap) != sorted(other):
        raise Unlike()


def gain(heap, other, book, friend):
    """By how much oftener than the book its friend has to go, once the book goes."""
    return int(lies_above(other, friend, book)) - int(lies_above(heap, friend, book))


def tie_gains(heap, other, ties):
    """Triples (book, friend, more), more being the gain."""
    return [(book, friend, gain(heap, other, book, friend)) for book, friend in ties]


def growing_ring(heap, other, ties):
    """A RING whose number is greater in other; None where there's none."""
    gains = tie_gains(heap, other, ties)
    height = {book: 0 for book in heap}
    came_from = {}
    # Without such a ring the greatest heights come by ways without a book twice, so the last turn raises none.
    for turn in range(len(heap)):
        raised = raise_heights(gains, height, came_from)
        if raised is None:
            return None
    return ring_behind(came_from, raised, len(heap))


def raise_heights(gains, height, came_from):
    """Raises each friend to its fan's height and the gain; told is the last that was raised, None where none was."""
    raised = None
    for book, friend, more in gains:
        if height[friend] < height[book] + more:
            height[friend] = height[book] + more
            came_from[friend] = book
            raised = friend
    return raised


def ring_behind(came_from, book, many):
    """The ring onto which so many steps back from the book lead."""
    start = book
    for step in range(many):
        start = came_from[start]
    ring = [start]
    while came_from[ring[-1]] != start:
        ring.append(came_from[ring[-1]])
    # It was walked from friend to fan.
    return ring[::-1]


def forced_many(heap, other, goings):
    """How many books from the top of other must go, where those with goings do.

    Those that stay keep their order beneath all that go.
    """
    many = 0
    for at, book in enumerate(other):
        if goings[book] > 0:
            many = at + 1
        elif at + 1 < len(other) and lies_above(heap, other[at + 1], book):
            many = at + 1
    return many


def least_goings(heap, other, ties):
    """A dict of how often each book goes at the fewest; only where no ring grows, else it wouldn't end."""
    gains = tie_gains(heap, other, ties)
    goings = {book: 0 for book in heap}
    changed = True
    while changed:
        changed = False
        many = forced_many(heap, other, goings)
        for book in other[:many]:
            goings[book] = max(goings[book], 1)
        for book, friend, more in gains:
            if goings[book] > 0 and goings[friend] < goings[book] + more:
                goings[friend] = goings[book] + more
                changed = True
    return goings


def row_of(other, goings):
    """The ROW to other with these goings.

    In rounds, those with the most goings left in each, from the lowest in other up: so between two goings of a book
    each friend goes, and the last round leaves other.
    """
    row = []
    for left in range(max(goings.values()), 0, -1):
        row.extend([book for book in other[::-1] if goings[book] >= left])
    return row


def leads(heap, other, ties):
    refuse_unlike(heap, other)
    return growing_ring(heap, other, ties) is None


def between(heap, other, ties):
    refuse_unlike(heap, other)
    ring = growing_ring(heap, other, ties)
    if ring is not None:
        return ("ring", ring)
    return ("row", row_of(other, least_goings(heap, other, ties)))
