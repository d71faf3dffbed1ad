"""A laying between least room and least reads, of a stock whose changes take the same both ways."""

from keepwhole.layings import change_sizes, is_stock, way
from keepwhole.leastroom import entry_sizes, least_room
from keepwhole.reading import least_reads, soonest


def is_even(stock):
    """Whether stock is a stock that has with each change the one the other way, of the same size."""
    if not is_stock(stock):
        return False
    sizes = change_sizes(stock)
    return all([sizes.get((b, a)) == size for a, b, size in stock[1]])


def between(stock, top, below):
    """A laying of the even stock that keeps both factors, of what there is to read and of the room."""
    takes = entry_sizes(stock)
    least = least_reads(stock)
    soon = soonest(stock)
    read = {None: 0}
    laid = {}
    for on, make in round_walk(least_room(stock)[1], None):
        lay_nearer(takes, read, laid, on, make)
        if below * read[make] > top * least[make]:
            # Since the last such way so much was walked that the room of this one is only a share of it.
            for passed in way(soon, make):
                lay_nearer(takes, read, laid, soon[passed], passed)
    return tuple([laid[make] for make in range(len(least))])


def round_walk(laying, make):
    """The list of steps (on, make) of a walk from make to all that rest on it and back; None is where wholes rest."""
    steps = []
    for other, on in enumerate(laying):
        if on == make:
            steps.append((make, other))
            steps += round_walk(laying, other)
            if make is not None:
                steps.append((other, make))
    return steps


def lay_nearer(takes, read, laid, on, make):
    """Lay make on the make on, or whole where this is None, if there is less to read of it then."""
    there = read[on] + takes[(on, make)]
    if make not in read or there < read[make]:
        read[make] = there
        laid[make] = on
