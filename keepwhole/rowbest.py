"""The least room of a row for a bound on its ways, and the least bound for a room."""

from keepwhole.rows import stretch_size


def within_deep(row, most):
    """The pair (room, kept) of least room where none is deeper than most."""
    many = len(row[0])
    return least_kept(row, [min(first + most + 1, many) for first in range(many)])


def within_reads(row, most):
    """The pair (room, kept) of least room where none has more to read than most; None where there is none."""
    return least_kept(row, [reads_end(row, first, most) for first in range(len(row[0]))])


def reads_end(row, first, most):
    """The last place up to which no make has more to read than most, first being whole and no other behind it."""
    end = first
    while end < len(row[0]) and stretch_size(row, first, end + 1) <= most:
        end += 1
    return end


def least_kept(row, ends):
    """The pair (room, kept) of least room, of several the first kept; None where there is none.

    From each make kept whole one goes on without another whole at most up to its place in ends.
    """
    many = len(row[0])
    # For each place from which the row can be kept: the best for the makes from there on, the first one whole.
    best = {many: (0, ())}
    for first in reversed(range(many)):
        found = []
        for end in range(first + 1, ends[first] + 1):
            if end in best:
                takes, kept = best[end]
                found.append((stretch_size(row, first, end) + takes, (first,) + kept))
        if found:
            best[first] = min(found)
    return best.get(0)


def deep_for(row, most):
    """A tuple (deep, room, kept) for the least deep that lets the room be at most most; None where none does."""
    for bound in range(len(row[0])):
        takes, kept = within_deep(row, bound)
        if takes <= most:
            return (bound, takes, kept)
    return None


def reads_for(row, most):
    """A tuple (number, room, kept) for the least bound of reads that lets the room be at most most; None likewise."""
    many = len(row[0])
    bounds = sorted({stretch_size(row, first, end) for first in range(many) for end in range(first + 1, many + 1)})
    # A greater bound never takes more room, so halving finds the least one.
    low = 0
    high = len(bounds)
    while low < high:
        middle = (low + high) // 2
        told = within_reads(row, bounds[middle])
        if told is not None and told[0] <= most:
            high = middle
        else:
            low = middle + 1
    if low == len(bounds):
        return None
    takes, kept = within_reads(row, bounds[low])
    return (bounds[low], takes, kept)


def not_beaten(row):
    """The rising list of the pairs (deep, room) that some kept has, and none has one less and the other no more."""
    pairs = []
    for bound in range(len(row[0])):
        takes = within_deep(row, bound)[0]
        # Where less room is had by this bound than by any lesser one, it is just met.
        if not pairs or takes < pairs[-1][1]:
            pairs.append((bound, takes))
    return pairs
