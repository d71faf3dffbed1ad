"""Stocks, and layings of them: the room they take, and the way to each make."""

from keepwhole.changes import change_size, least_change, whole_size
from keepwhole.kinds import is_number, is_tuple_of


def is_stock(thing):
    """Whether thing is a stock."""
    if not is_tuple_of(thing, 2):
        return False
    wholes, changes = thing
    if not isinstance(wholes, tuple) or not isinstance(changes, tuple):
        return False
    if not all([is_size(size) for size in wholes]):
        return False
    if not all([is_stock_change(change, len(wholes)) for change in changes]):
        return False
    # By their makes alone, so that no two changes between the same makes pass.
    pairs = [change[:2] for change in changes]
    return all([ahead < behind for ahead, behind in zip(pairs, pairs[1:])])


def is_size(thing):
    return is_number(thing) and thing >= 1


def is_stock_change(thing, makes):
    """Whether thing is (a, b, size) for two unlike makes of so many."""
    if not is_tuple_of(thing, 3):
        return False
    a, b, size = thing
    return is_make(a, makes) and is_make(b, makes) and a != b and is_size(size)


def is_make(thing, makes):
    return is_number(thing) and 0 <= thing < makes


def is_laying(stock, thing):
    """Whether thing is a laying of the stock."""
    makes = len(stock[0])
    if not is_tuple_of(thing, makes):
        return False
    sizes = change_sizes(stock)
    for make, on in enumerate(thing):
        if on is not None and not (is_number(on) and (on, make) in sizes):
            return False
    return all([comes_from_whole(thing, make) for make in range(makes)])


def comes_from_whole(laying, make):
    """Whether what make rests on, and so on, ends in one kept whole."""
    on = laying[make]
    # A way that isn't at its end after as many steps as there are makes goes in a ring.
    for step in range(len(laying)):
        if on is None:
            return True
        on = laying[on]
    return False


def change_sizes(stock):
    """The size of each change of the stock, by its pair of makes."""
    return {(a, b): size for a, b, size in stock[1]}


def stock_of(things):
    """The stock of the whole sizes of the things, and of the least changes from each to each other one."""
    makes = list(range(len(things)))
    wholes = [whole_size(thing) for thing in things]
    changes = [(a, b, change_size(least_change(things[a], things[b]))) for a in makes for b in makes if a != b]
    return (tuple(wholes), tuple(changes))


def kept_sizes(stock, laying):
    """The list of what each make takes as it is laid."""
    sizes = change_sizes(stock)
    return [stock[0][make] if on is None else sizes[(on, make)] for make, on in enumerate(laying)]


def room(stock, laying):
    """What all makes take together."""
    return sum(kept_sizes(stock, laying))


def way(laying, make):
    """The makes from the one kept whole that make comes from, to make itself."""
    makes = [make]
    on = laying[make]
    while on is not None:
        makes.append(on)
        on = laying[on]
    return tuple(reversed(makes))


def deep(laying, make):
    """How many changes there are on the way to make."""
    return len(way(laying, make)) - 1


def reads(stock, laying):
    """For each make what there is to read on its way, together."""
    sizes = kept_sizes(stock, laying)
    return tuple([sum([sizes[passed] for passed in way(laying, make)]) for make in range(len(laying))])


def resting(laying, make):
    """The rising list of the other makes whose way goes over make."""
    return [other for other in range(len(laying)) if other != make and make in way(laying, other)]
