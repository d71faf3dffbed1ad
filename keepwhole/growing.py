"""Rows that grow make by make: one in which no make is laid anew, and one whose newest make is whole."""

from keepwhole.errors import NoMake


class Growing:
    """A row that grows; what is kept whole once stays so, and what is a change stays one."""

    def __init__(self):
        self.wholes = []
        self.steps = []
        self.kept = []
        # What the changes since the last make kept whole take together.
        self.since = 0

    def grown(self, whole, step):
        """One make more; tells "whole" or "change", as it is kept."""
        make = len(self.wholes)
        self.wholes.append(whole)
        if make > 0:
            self.steps.append(step)
            self.since += step
        if make > 0 and self.since <= whole:
            return "change"
        self.kept.append(make)
        self.since = 0
        return "whole"

    def row_now(self):
        """The row so far."""
        if not self.wholes:
            raise NoMake("the row has no make yet")
        return (tuple(self.wholes), tuple(self.steps))

    def kept_now(self):
        """The makes of the row that are kept whole."""
        return tuple(self.kept)


class Newest:
    """Makes of which the newest one is whole, and one ahead of another may be kept as a change of it."""

    def __init__(self, most):
        self.most = most
        self.laying = []
        self.sizes = []
        # How deep the deepest make is that comes from the newest one.
        self.deepest = 0

    def grown(self, whole, back):
        """One make more, kept whole; tells the tuple of the makes laid anew for it, one or none."""
        make = len(self.laying)
        anew = ()
        if make > 0 and self.deepest < self.most:
            self.laying[-1] = make
            self.sizes[-1] = back
            self.deepest += 1
            anew = (make - 1,)
        else:
            self.deepest = 0
        self.laying.append(None)
        self.sizes.append(whole)
        return anew

    def laying_now(self):
        """The laying of the makes so far."""
        return tuple(self.laying)

    def room_now(self):
        """What all makes take together."""
        return sum(self.sizes)
