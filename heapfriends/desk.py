"""A desk: the rows of a text are told to a pile, each is answered by a text."""

from heapfriends.back import can_go_back
from heapfriends.errors import BadRow, Full, Last, MayNot, NoBook, NoTie, Own, Taken, Tied, TooMany, Unlike
from heapfriends.heaps import is_heap, is_name
from heapfriends.laying import refuse_absent
from heapfriends.lifting import must_go
from heapfriends.limits import MOST_BOOKS
from heapfriends.many import led_many
from heapfriends.pile import Pile
from heapfriends.rings import knots
from heapfriends.texts import by_blanks, heap_text, ties_text


def yes_or_no(so):
    return "yes" if so else "no"


def answer_lay(pile, books):
    return str(pile.lay(books[0]))


def answer_tie(pile, books):
    pile.tie(books[0], books[1])
    return "done"


def answer_untie(pile, books):
    pile.untie(books[0], books[1])
    return "done"


def answer_add(pile, books):
    pile.add(books[0])
    return "done"


def answer_take(pile, books):
    pile.take(books[0])
    return "done"


def answer_undo(pile, books):
    return yes_or_no(pile.undo())


def answer_heap(pile, books):
    return heap_text(pile.heap())


def answer_ties(pile, books):
    return ties_text(pile.ties())


def answer_may(pile, books):
    return by_blanks(pile.may_go())


def answer_knots(pile, books):
    found = knots(pile.ties())
    return " ; ".join([by_blanks(knot) for knot in found]) if found else "-"


def answer_must(pile, books):
    refuse_absent(pile.heap(), books)
    return by_blanks(must_go(pile.heap(), pile.ties(), books))


def answer_to(pile, books):
    kind, told = pile.told(books)
    return f"row {len(told)}" if kind == "row" else "ring"


def answer_many(pile, books):
    return str(led_many(pile.heap(), pile.ties()))


def answer_back(pile, books):
    return yes_or_no(can_go_back(pile.heap(), pile.ties(), books[0]))


def answer_went(pile, books):
    return str(pile.went(books[0]))


# How many books follow each word; one or more, unlike, follow the words of SEVERAL.
BOOKS_BEHIND = {
    "lay": 1, "tie": 2, "untie": 2, "add": 1, "take": 1, "undo": 0,
    "heap": 0, "ties": 0, "may": 0, "knots": 0, "many": 0, "back": 1, "went": 1,
}
SEVERAL = ("must", "to")

ANSWERS = {
    "lay": answer_lay,
    "tie": answer_tie,
    "untie": answer_untie,
    "add": answer_add,
    "take": answer_take,
    "undo": answer_undo,
    "heap": answer_heap,
    "ties": answer_ties,
    "may": answer_may,
    "knots": answer_knots,
    "must": answer_must,
    "to": answer_to,
    "many": answer_many,
    "back": answer_back,
    "went": answer_went,
}


def is_first_row(words):
    return words[0] == "heap" and is_heap(tuple(words[1:])) and len(words) - 1 <= MOST_BOOKS


def is_later_row(words):
    word, books = words[0], words[1:]
    if word in SEVERAL:
        return is_heap(tuple(books))
    if word not in BOOKS_BEHIND or len(books) != BOOKS_BEHIND[word]:
        return False
    return all([is_name(book) for book in books])


def is_written(number, words):
    return is_first_row(words) if number == 0 else is_later_row(words)


def answer(pile, words):
    tell = ANSWERS[words[0]]
    try:
        return tell(pile, words[1:])
    except NoBook:
        return "refused NoBook"
    except MayNot:
        return "refused MayNot"
    except Own:
        return "refused Own"
    except Tied:
        return "refused Tied"
    except NoTie:
        return "refused NoTie"
    except Taken:
        return "refused Taken"
    except Full:
        return "refused Full"
    except Last:
        return "refused Last"
    except Unlike:
        return "refused Unlike"
    except TooMany:
        return "refused TooMany"


def answers(text):
    rows = [row.split(" ") for row in text.split("\n")]
    for number, words in enumerate(rows):
        if not is_written(number, words):
            raise BadRow(number)
    pile = Pile(rows[0][1:])
    return [answer(pile, words) for words in rows[1:]]
