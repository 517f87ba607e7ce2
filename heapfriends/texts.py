"""Texts of heaps and ties."""

from heapfriends.errors import BadText
from heapfriends.heaps import is_heap, is_name, is_ties


def by_blanks(words):
    return " ".join(words) if len(words) > 0 else "-"


def heap_text(heap):
    return by_blanks(heap)


def ties_text(ties):
    return by_blanks([f"{book}>{friend}" for book, friend in ties])


def heap_in(text):
    heap = tuple(text.split(" "))
    if not is_heap(heap):
        raise BadText(text)
    return heap


def ties_in(text):
    words = [] if text == "-" else text.split(" ")
    ties = tuple([tuple(word.split(">")) for word in words])
    names = [name for pair in ties for name in pair]
    # Such pairs are ties of a heap just where they're ties of all names that stand in them.
    if not all([is_name(name) for name in names]) or not is_ties(names, ties):
        raise BadText(text)
    return ties
