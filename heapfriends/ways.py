"""A plain search: all that is come to step by step, and the way to each."""


def walked(starts, steps):
    """A dict of all that's come to, each with the one before it on a shortest way, None of a start.

    It stands in the order in which all was come to, so each behind the one before it. Where steps tells rising
    lists, the way to each is the first, as lists rise, of the shortest ones.
    """
    before = {start: None for start in starts}
    waiting = list(before)
    while waiting:
        here = waiting.pop(0)
        for there in steps(here):
            if there not in before:
                before[there] = here
                waiting.append(there)
    return before


def way_to(before, there):
    """The list from a start to there, of what walked told."""
    way = [there]
    while before[way[-1]] is not None:
        way.append(before[way[-1]])
    return way[::-1]
