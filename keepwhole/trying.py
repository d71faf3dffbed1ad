"""All layings of a stock of few makes, gone through one by one."""

from keepwhole.layings import deep, reads, room


def all_layings(stock):
    """The rising list of all layings of the stock."""
    layings = [()]
    for make in range(len(stock[0])):
        # None and then the rising makes behind each rising beginning: so all of them rise too.
        choices = [None] + [a for a, b, size in stock[1] if b == make]
        layings = [begun + (on,) for begun in layings for on in choices if not closes_ring(begun, on)]
    return layings


def closes_ring(begun, on):
    """Whether the make behind a laying's beginning would rest on itself, by others, if it were laid on this one."""
    make = len(begun)
    while on is not None and on < make:
        on = begun[on]
    return on == make


def best_within(stock, most_deep, most_read):
    """Of the layings within both bounds the first one of least room, as a pair (room, laying); None without one."""
    best = None
    for laying in all_layings(stock):
        takes = room(stock, laying)
        # Only less room is better: of layings of the same room the first one stays.
        if (best is None or takes < best[0]) and is_within(stock, laying, most_deep, most_read):
            best = (takes, laying)
    return best


def is_within(stock, laying, most_deep, most_read):
    """Whether no make is deeper than the one bound, and none has more to read than the other; None is no bound."""
    if most_deep is not None and any([deep(laying, make) > most_deep for make in range(len(laying))]):
        return False
    return most_read is None or all([number <= most_read for number in reads(stock, laying)])
