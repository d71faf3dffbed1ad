"""Sums of rows: the rate times the room, and for each make its ask times what there is to read of it."""

from keepwhole.kinds import is_number, is_tuple_of
from keepwhole.pricecheck import are_makes
from keepwhole.rows import row_reads, row_room, stretch_size


def least_sum(row, asks, rate):
    """The pair (number, kept) of the least sum, of several kept the first as tuples rise."""
    return best_sums(row, asks, rate)[0]


def sum_table(row, asks, rate):
    """The tuple with for each place the least sum of the makes from there on alone, the first of them whole."""
    return tuple([number for number, kept in best_sums(row, asks, rate)])


def best_sums(row, asks, rate):
    """The list with for each place the least sum of the makes from there on, with the first kept that has it."""
    best = [(0, ())]
    for first in reversed(range(len(row[0]))):
        # Here best begins with the place behind first, as the stretches do.
        stretches = stretch_sums(row, asks, rate, first)
        found = [(takes + number, (first,) + kept) for takes, (number, kept) in zip(stretches, best)]
        best = [min(found)] + best
    return best


def stretch_sums(row, asks, rate, first):
    """The list with for each place behind first the sum of the makes from first up to it, only first being whole."""
    sums = []
    asked = 0
    for make in range(first, len(row[0])):
        read = stretch_size(row, first, make + 1)
        asked += asks[make] * read
        sums.append(rate * read + asked)
    return sums


def shows_sum(row, asks, rate, number, kept, table):
    """Whether the table, each number of it by those behind it, shows that the kept's sum is number, and the least."""
    if not is_number(number) or not is_kept(row, kept) or not is_table(row, asks, rate, table):
        return False
    return kept_sum(row, asks, rate, kept) == number and table[0] == number


def is_kept(row, thing):
    """Whether thing is a rising tuple of makes of the row, 0 first."""
    return are_makes(thing, len(row[0])) and thing[0] == 0


def kept_sum(row, asks, rate, kept):
    asked = [ask * read for ask, read in zip(asks, row_reads(row, kept))]
    return rate * row_room(row, kept) + sum(asked)


def is_table(row, asks, rate, thing):
    """Whether thing is a tuple of 0 for the last place, and for each other the least by the numbers behind it."""
    many = len(row[0])
    if not is_tuple_of(thing, many + 1) or not all([is_number(number) for number in thing]):
        return False
    if thing[many] != 0:
        return False
    for first in range(many):
        stretches = stretch_sums(row, asks, rate, first)
        if thing[first] != min([takes + number for takes, number in zip(stretches, thing[first + 1:])]):
            return False
    return True
