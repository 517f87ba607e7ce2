"""A pile: a heap with its ties, kept over deeds that can be undone."""

from heapfriends.between import between
from heapfriends.errors import Full, Last, NoDeed, NoName, NoPlace, NoTie, Own, Taken, Tied
from heapfriends.heaps import is_name, rising_ties
from heapfriends.laying import laid, may_go, refuse_absent
from heapfriends.limits import MOST_BOOKS


class Noted:
    """Notes in a log that a deed begins and that it ends, refused or not."""

    def __init__(self, notes, word):
        self.notes = notes
        self.word = word

    def __enter__(self):
        self.notes.append(("in", self.word))

    def __exit__(self, kind, value, trace):
        self.notes.append(("out", self.word))


class Pile:
    """Books that lie on one another, and their friends, over deeds."""

    def __init__(self, heap, ties=()):
        # How it stood at first, and behind each deed that stands: (heap, ties, a dict of how often books went).
        self.stood = [(tuple(heap), rising_ties(ties), {})]
        self.notes = []

    def lay(self, book):
        with Noted(self.notes, "lay"):
            return self.go_by([book])[0]

    def go(self, row):
        with Noted(self.notes, "go"):
            return self.go_by(row)

    def go_by(self, row):
        """The deed of a row, without a note: what each book of it tells."""
        heap, ties, gone = self.stood[-1]
        often = dict(gone)
        told = []
        for book in row:
            behind = laid(heap, ties, book)
            told.append(heap.index(book))
            often[book] = often.get(book, 0) + 1
            heap = behind
        # It stands only now, so a row that's refused changes nothing.
        self.stood.append((heap, ties, often))
        return told

    def tie(self, book, friend):
        with Noted(self.notes, "tie"):
            heap, ties, gone = self.stood[-1]
            refuse_absent(heap, [book, friend])
            if book == friend:
                raise Own(book)
            if (book, friend) in ties:
                raise Tied((book, friend))
            self.stood.append((heap, rising_ties([*ties, (book, friend)]), gone))

    def untie(self, book, friend):
        with Noted(self.notes, "untie"):
            heap, ties, gone = self.stood[-1]
            refuse_absent(heap, [book, friend])
            if (book, friend) not in ties:
                raise NoTie((book, friend))
            self.stood.append((heap, tuple([pair for pair in ties if pair != (book, friend)]), gone))

    def add(self, book, at=0):
        with Noted(self.notes, "add"):
            heap, ties, gone = self.stood[-1]
            if not is_name(book):
                raise NoName(book)
            if book in heap:
                raise Taken(book)
            if len(heap) >= MOST_BOOKS:
                raise Full(MOST_BOOKS)
            if not 0 <= at <= len(heap):
                raise NoPlace(at)
            self.stood.append((heap[:at] + (book,) + heap[at:], ties, gone))

    def take(self, book):
        with Noted(self.notes, "take"):
            heap, ties, gone = self.stood[-1]
            refuse_absent(heap, [book])
            if len(heap) == 1:
                raise Last()
            left = tuple([lain for lain in heap if lain != book])
            self.stood.append((left, tuple([pair for pair in ties if book not in pair]), gone))

    def undo(self):
        with Noted(self.notes, "undo"):
            if self.deeds() == 0:
                return False
            self.stood.pop()
            return True

    def heap(self):
        return self.stood[-1][0]

    def ties(self):
        return self.stood[-1][1]

    def may_go(self):
        return may_go(self.heap(), self.ties())

    def told(self, other):
        return between(self.heap(), other, self.ties())

    def went(self, book):
        # Only texts are sure to be fit for a key.
        return self.stood[-1][2].get(book, 0) if isinstance(book, str) else 0

    def deeds(self):
        return len(self.stood) - 1

    def as_of(self, many):
        if not 0 <= many <= self.deeds():
            raise NoDeed(many)
        pile = Pile(self.heap(), self.ties())
        # What stood is never changed, only put to and taken away, so both may have it.
        pile.stood = self.stood[:many + 1]
        return pile

    def twin(self):
        return self.as_of(self.deeds())

    def log(self):
        return list(self.notes)

    def __eq__(self, other):
        return isinstance(other, Pile) and self.heap() == other.heap() and self.ties() == other.ties()

    def __len__(self):
        return len(self.heap())

    def __repr__(self):
        return f"Pile({len(self.heap())} books, {len(self.ties())} ties)"
