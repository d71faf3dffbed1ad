"""The laying of least room, with a paper of prices that shows that none takes less.

An entry is a pair (on, make): make rests on the make on, or is kept whole where on is None. It is free once
prices have used up all that it takes. Prices are set on makes to which no free entry leads from elsewhere, until
free entries lead from makes kept whole to each make.
"""


def least_room(stock):
    """A tuple (number, laying, paper): the least room, a laying that takes it, and a paper whose prices come to it."""
    many = len(stock[0])
    left = entry_sizes(stock)
    free = []
    paper = []
    makes = next_makes(many, free)
    while makes:
        entering = [(on, make) for on, make in left if make in makes and on not in makes]
        price = min([left[entry] for entry in entering])
        paper.append((makes, price))
        for entry in entering:
            left[entry] -= price
        free += [entry for entry in entering if left[entry] == 0]
        makes = next_makes(many, free)
    return (sum([pair[1] for pair in paper]), laid_by(many, free), paper)


def entry_sizes(stock):
    """What each entry takes."""
    sizes = {(None, make): size for make, size in enumerate(stock[0])}
    for a, b, size in stock[1]:
        sizes[(a, b)] = size
    return sizes


def next_makes(many, free):
    """The rising tuple of makes on which the next price is set; () where each make is come to by free entries."""
    fewest = []
    for make in range(many):
        found = leading_to(free, make)
        # As the fewest, they all lead to each other, and nothing free leads to them from elsewhere.
        if None not in found and (not fewest or len(found) < len(fewest)):
            fewest = found
    return tuple(sorted(fewest))


def leading_to(free, make):
    """The list of the makes from which free entries lead to make, itself too, with None if one may be kept whole."""
    found = [make]
    at = 0
    while at < len(found):
        found += [on for on, to in free if to == found[at] and on not in found]
        at += 1
    return found


def laid_by(many, free):
    """The laying that comes from make to make, each time by the entry that was free first."""
    laid = {}
    # Makes that have a price led to each other ahead of any free entry from elsewhere: once one of them is come to,
    # they are gone through to the last by those. So each price counts once, and the room is the prices' sum.
    while len(laid) < many:
        on, make = [entry for entry in free if entry[1] not in laid and (entry[0] is None or entry[0] in laid)][0]
        laid[make] = on
    return tuple([laid[make] for make in range(many)])
