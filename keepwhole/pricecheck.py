"""Whether a paper of prices shows that a laying takes the least room."""

from keepwhole.kinds import is_number, is_tuple_of
from keepwhole.layings import is_laying, is_make, is_size, room


def shows_least_room(stock, thing):
    """Whether thing is (number, laying, paper): a laying of this room, and a paper whose prices together are it."""
    if not is_tuple_of(thing, 3):
        return False
    number, laying, paper = thing
    if not is_number(number) or not is_laying(stock, laying) or not is_paper(stock, paper):
        return False
    return room(stock, laying) == number and sum([price for makes, price in paper]) == number


def is_paper(stock, thing):
    """Whether thing is a paper of prices for the stock."""
    if not isinstance(thing, list) or not all([is_priced(pair, len(stock[0])) for pair in thing]):
        return False
    if len({makes for makes, price in thing}) < len(thing):
        return False
    return keeps_to_wholes(stock, thing) and keeps_to_changes(stock, thing)


def is_priced(thing, many):
    """Whether thing is a pair (makes, price), the makes some of so many."""
    if not is_tuple_of(thing, 2):
        return False
    makes, price = thing
    return is_size(price) and are_makes(makes, many)


def are_makes(thing, many):
    """Whether thing is a rising tuple of one or more of so many makes."""
    if not isinstance(thing, tuple) or not thing:
        return False
    if not all([is_make(make, many) for make in thing]):
        return False
    return all([ahead < behind for ahead, behind in zip(thing, thing[1:])])


def keeps_to_wholes(stock, paper):
    """Whether no make takes less, kept whole, than the prices of all in which it is."""
    for make, size in enumerate(stock[0]):
        if size < sum([price for makes, price in paper if make in makes]):
            return False
    return True


def keeps_to_changes(stock, paper):
    """Whether no change takes less than the prices of those in which its make is and the one it rests on is not."""
    for a, b, size in stock[1]:
        if size < sum([price for makes, price in paper if b in makes and a not in makes]):
            return False
    return True
