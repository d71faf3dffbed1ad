"""The least there is to read of each make, and the laying by which it is read so."""


def least_reads(stock):
    """The tuple of what there is to read of each make at least, of all layings."""
    wholes, changes = stock
    least = list(wholes)
    # No nearest way goes over a make twice, and each turn sets at least one make more on it right.
    for turn in range(len(wholes)):
        for a, b, size in changes:
            least[b] = min(least[b], least[a] + size)
    return tuple(least)


def soonest(stock):
    """The laying in which each make has the least to read, and each by the least size that lets it."""
    wholes, changes = stock
    least = least_reads(stock)
    laying = [None] * len(wholes)
    # A change by which its make has the least is less than the whole, as there is to read of the other make too.
    sizes = list(wholes)
    for a, b, size in changes:
        # Changes rise, and only a lesser one is better: of those as great the one of the least make stays.
        if least[a] + size == least[b] and size < sizes[b]:
            laying[b] = a
            sizes[b] = size
    return tuple(laying)
