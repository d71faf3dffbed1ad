"""Rows of makes, each one kept whole or as a change of the one ahead of it."""

from keepwhole.layings import deep, reads, room


def row_stock(row):
    """The stock of the row."""
    wholes, steps = row
    return (wholes, tuple([(make, make + 1, size) for make, size in enumerate(steps)]))


def row_laying(row, kept):
    """The laying in which the kept are whole, and each other make rests on the one ahead of it."""
    return tuple([None if make in kept else make - 1 for make in range(len(row[0]))])


def row_room(row, kept):
    """What all makes of the row take together."""
    return room(row_stock(row), row_laying(row, kept))


def row_reads(row, kept):
    """For each make of the row what there is to read on its way, together."""
    return reads(row_stock(row), row_laying(row, kept))


def row_deep(row, kept):
    """How deep the deepest make of the row is."""
    laying = row_laying(row, kept)
    return max([deep(laying, make) for make in range(len(laying))])


def stretch_size(row, first, end):
    """What the makes from first up to the place end take, only first being whole.

    As each rests on the one ahead of it, this is also what there is to read of the last one of them.
    """
    wholes, steps = row
    return wholes[first] + sum(steps[first:end - 1])
