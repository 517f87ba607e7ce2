"""Heaps that were seen: a row that leads through all of them, and their order where it was lost."""

from heapfriends.between import between, leads, refuse_unlike
from heapfriends.errors import Apart, Gap


def history(heap, ties, seen):
    for other in seen:
        refuse_unlike(heap, other)
    row = []
    standing = heap
    for place, other in enumerate(seen):
        kind, told = between(standing, other, ties)
        if kind == "ring":
            raise Gap(place, told)
        # Any row through all falls into parts from one heap to the next, so the fewest of each part are the fewest.
        row.extend(told)
        standing = other
    return row


def in_order(ties, seen):
    for other in seen:
        refuse_unlike(seen[0], other)
    led = [[leads(one, other, ties) for other in seen] for one in seen]
    refuse_apart(led)
    # What is led to leads on, so a heap stands the further ahead the more it leads to; alike ones stay as they are.
    return sorted(range(len(seen)), key=lambda place: -led[place].count(True))


def refuse_apart(led):
    """Refuses the first pair of places of which neither leads to the other."""
    for one in range(len(led)):
        for other in range(one + 1, len(led)):
            if not led[one][other] and not led[other][one]:
                raise Apart(one, other)
