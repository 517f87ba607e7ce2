"""The refusals: one class for each kind, straight under the class of Python's own that the document tells."""

# The messages hold none of the fields: a field may be anything, also a number too long to be written out.


class Unlike(ValueError):
    """The heaps haven't the same books."""


class BadText(ValueError):
    """The text is none of the kind that was asked for."""

    def __init__(self, text):
        ValueError.__init__(self, "no such text")
        self.text = text


class BadRow(ValueError):
    """The row of that number isn't written as the desk reads rows."""

    def __init__(self, number):
        ValueError.__init__(self, "a row that can't be read")
        self.number = number


class Own(ValueError):
    """A book can't be its own friend."""

    def __init__(self, book):
        ValueError.__init__(self, "a book is no friend of itself")
        self.book = book


class NoName(ValueError):
    """What should be a new book's name is no NAME."""

    def __init__(self, book):
        ValueError.__init__(self, "no name of a book")
        self.book = book


class NoBook(LookupError):
    """What should be a book of the heap is none of it."""

    def __init__(self, book):
        LookupError.__init__(self, "no such book in the heap")
        self.book = book


class NoTie(LookupError):
    """The pair (book, friend) isn't tied."""

    def __init__(self, pair):
        LookupError.__init__(self, "no such tie")
        self.pair = pair


class NoPlace(LookupError):
    """The heap has no such place to put a book."""

    def __init__(self, at):
        LookupError.__init__(self, "no such place in the heap")
        self.at = at


class NoDeed(LookupError):
    """Not so many deeds stand."""

    def __init__(self, many):
        LookupError.__init__(self, "not so many deeds stand")
        self.many = many


class MayNot(RuntimeError):
    """A friend of the book lies beneath it, so it isn't let to go."""

    def __init__(self, book):
        RuntimeError.__init__(self, "a friend lies beneath the book")
        self.book = book


class Barred(RuntimeError):
    """The ring's number is greater in the other heap, so no row leads there."""

    def __init__(self, ring):
        RuntimeError.__init__(self, "a ring bars the way")
        self.ring = ring


class Lost(RuntimeError):
    """Behind the deed at that place there's no way back."""

    def __init__(self, place):
        RuntimeError.__init__(self, "no way back behind a deed")
        self.place = place


class Gap(RuntimeError):
    """The heap seen at that place isn't led to; the ring shows it."""

    def __init__(self, place, ring):
        RuntimeError.__init__(self, "a heap that was seen isn't led to")
        self.place = place
        self.ring = ring


class Apart(RuntimeError):
    """Of the heaps seen at these two places neither leads to the other."""

    def __init__(self, one, other):
        RuntimeError.__init__(self, "neither heap leads to the other")
        self.one = one
        self.other = other


class Stopped(RuntimeError):
    """The deed of that number, counted through all rounds, isn't let."""

    def __init__(self, number):
        RuntimeError.__init__(self, "a deed isn't let")
        self.number = number


class Shared(RuntimeError):
    """Both heaps have the book."""

    def __init__(self, book):
        RuntimeError.__init__(self, "both heaps have a book")
        self.book = book


class Tied(RuntimeError):
    """The pair (book, friend) is tied already."""

    def __init__(self, pair):
        RuntimeError.__init__(self, "tied already")
        self.pair = pair


class Taken(RuntimeError):
    """A book of that name lies in the heap already."""

    def __init__(self, book):
        RuntimeError.__init__(self, "the name is taken")
        self.book = book


class Last(RuntimeError):
    """The only book of a heap can't be taken."""


class TooMany(OverflowError):
    """There are more than can be told."""

    def __init__(self, many):
        OverflowError.__init__(self, "too many")
        self.many = many


class Full(OverflowError):
    """So many books lie in the heap, and no more may."""

    def __init__(self, many):
        OverflowError.__init__(self, "the heap is full")
        self.many = many
