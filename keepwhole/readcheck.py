"""Whether numbers show that a laying has the least to read, and that another one keeps between both."""

from keepwhole.kinds import is_number, is_tuple_of
from keepwhole.layings import is_laying, reads, room
from keepwhole.pricecheck import shows_least_room


def shows_reads(stock, numbers, laying):
    """Whether no make's number is above what it may be read by, and the laying's reads are these numbers."""
    wholes, changes = stock
    if not is_tuple_of(numbers, len(wholes)) or not all([is_number(number) for number in numbers]):
        return False
    if any([number > whole for number, whole in zip(numbers, wholes)]):
        return False
    if any([numbers[b] > numbers[a] + size for a, b, size in changes]):
        return False
    return is_laying(stock, laying) and reads(stock, laying) == numbers


def shows_between(stock, top, below, thing):
    """Whether thing is (laying, least, numbers, soon): a laying that keeps both factors, by what the others show."""
    if not is_tuple_of(thing, 4):
        return False
    laying, least, numbers, soon = thing
    if not is_laying(stock, laying) or not shows_least_room(stock, least) or not shows_reads(stock, numbers, soon):
        return False
    if (top - below) * room(stock, laying) > (top + below) * least[0]:
        return False
    return all([below * read <= top * number for read, number in zip(reads(stock, laying), numbers)])
