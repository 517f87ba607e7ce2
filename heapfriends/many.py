"""How many heaps are led to, how many are alike, and how many lots there are.

What is led to hangs on the order within each knot alone. So each knot is counted for itself, and the orders of all
books are as many as without ties, but for those that the knots take away.
"""

from heapfriends.errors import TooMany
from heapfriends.laying import may_go, on_top
from heapfriends.limits import MOST_KNOT, MOST_LED
from heapfriends.lots import reading
from heapfriends.otherwise import only
from heapfriends.rings import knots
from heapfriends.ways import walked


def refuse_great_knots(ties):
    greatest = max([len(knot) for knot in knots(ties)], default=0)
    if greatest > MOST_KNOT:
        raise TooMany(greatest)


def knot_heaps(heap, ties):
    return [only(heap, ties, knot) for knot in knots(ties)]


def led_from(heap, ties):
    before = walked([tuple(heap)], lambda lain: [on_top(lain, book) for book in may_go(lain, ties)])
    return list(before)


def alike_to(heap, ties):
    told = reading(heap, ties)
    return [led for led in led_from(heap, ties) if reading(led, ties) == told]


def orders(books):
    """All orders of the books, as tuples."""
    found = [()]
    for book in books:
        found = [order[:at] + (book,) + order[at:] for order in found for at in range(len(order) + 1)]
    return found


def orders_many(many):
    """How many orders so many books have."""
    product = 1
    for factor in range(2, many + 1):
        product *= factor
    return product


def orders_with(heap, ties, chosen):
    """How many orders of all books there are in which each knot's are in one of the chosen ones."""
    many = orders_many(len(heap))
    for lain, tied in knot_heaps(heap, ties):
        many = many // orders_many(len(lain)) * len(chosen(lain, tied))
    return many


def led_many(heap, ties):
    refuse_great_knots(ties)
    return orders_with(heap, ties, led_from)


def lot_many(heap, ties):
    refuse_great_knots(ties)
    return orders_with(heap, ties, alike_to)


def lots_many(heap, ties):
    refuse_great_knots(ties)
    many = 1
    for lain, tied in knot_heaps(heap, ties):
        many *= len({tuple(reading(order, tied)) for order in orders(lain)})
    return many


def all_led(heap, ties):
    many = led_many(heap, ties)
    if many > MOST_LED:
        raise TooMany(many)
    return sorted(led_from(heap, ties))
