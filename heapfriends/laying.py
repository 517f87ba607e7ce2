"""Books that go: each is taken out and laid on top, while all its friends lie above it."""

from heapfriends.errors import MayNot, NoBook
from heapfriends.heaps import friends_of


def all_above(heap, friends, book):
    above = heap[:heap.index(book)]
    return all([friend in above for friend in friends])


def on_top(heap, book):
    return (book,) + tuple([lain for lain in heap if lain != book])


def may_go(heap, ties):
    return sorted([book for book in heap if all_above(heap, friends_of(ties, book), book)])


def refuse_absent(heap, books):
    for book in books:
        if book not in heap:
            raise NoBook(book)


def laid(heap, ties, book):
    refuse_absent(heap, [book])
    if not all_above(heap, friends_of(ties, book), book):
        raise MayNot(book)
    return on_top(heap, book)


def done(heap, ties, row):
    standing = tuple(heap)
    for book in row:
        standing = laid(standing, ties, book)
    return standing


def first_refused(heap, ties, row):
    # A row may be long, so each book's friends are looked up only once.
    friends = {book: friends_of(ties, book) for book in heap}
    standing = tuple(heap)
    for place, book in enumerate(row):
        if not all_above(standing, friends[book], book):
            return place
        standing = on_top(standing, book)
    return None


def left_by(heap, row):
    standing = tuple(heap)
    for book in row:
        standing = on_top(standing, book)
    return standing
