"""Who must go so that told books all go."""

from heapfriends.heaps import friends_of, lies_above
from heapfriends.ways import walked, way_to


def friends_beneath(heap, ties, book):
    return [friend for friend in friends_of(ties, book) if lies_above(heap, book, friend)]


def forced(heap, ties, books):
    """A dict of all that must go, each with one that can't go ahead of it, None of the told ones."""
    return walked(books, lambda book: friends_beneath(heap, ties, book))


def must_go(heap, ties, books):
    return sorted(forced(heap, ties, books))


def lift(heap, ties, books):
    before = forced(heap, ties, books)
    return [book for book in heap[::-1] if book in before]


def why_must(heap, ties, books, book):
    before = forced(heap, ties, books)
    return way_to(before, book) if book in before else None


def shows_must(heap, ties, books, thing):
    if not isinstance(thing, list) or len(thing) == 0 or thing[0] not in books:
        return False
    return all([thing[at] in friends_beneath(heap, ties, thing[at - 1]) for at in range(1, len(thing))])
