"""A shelf of things: each make is kept whole, or as the least change of another one."""

from keepwhole.changes import change_size, changed, least_change, whole_size
from keepwhole.errors import Loop, NoMake
from keepwhole.layings import stock_of, way
from keepwhole.leastroom import least_room


class Shelf:
    """Makes by their numbers, what was done to them, and what was spent on reading them."""

    def __init__(self):
        # For each make the one on which it rests, or None, and what is kept of it: its thing, or a change.
        self.ons = {}
        self.kept = {}
        self.given = 0
        self.spent = 0
        self.deeds = []

    def put(self, thing):
        """Keep a thing whole; tells its number."""
        self.begin("put")
        make = self.given
        self.given += 1
        self.keep(make, None, tuple(thing))
        return make

    def rest(self, make, on):
        """Keep make as the least change of the make on, or whole where this is None; tells what it takes now."""
        thing = self.thing_now(make)
        if on is None:
            self.begin("rest")
            self.keep(make, None, thing)
        else:
            base = self.thing_now(on)
            if make in way(self.ons, on):
                raise Loop(f"make {on} is make {make}, or rests on it")
            self.begin("rest")
            self.keep(make, on, least_change(base, thing))
        return self.takes(make)

    def fetch(self, make):
        """The pair of the make's thing and what was read for it."""
        thing = self.thing_now(make)
        read = sum([self.takes(passed) for passed in way(self.ons, make)])
        self.spent += read
        return (thing, read)

    def makes_now(self):
        """The rising list of the makes that are there."""
        return sorted(self.ons)

    def on_now(self, make):
        """The make on which it rests, None where it is whole."""
        self.look_for(make)
        return self.ons[make]

    def way_now(self, make):
        """The makes from the one kept whole that it comes from, to itself."""
        self.look_for(make)
        return way(self.ons, make)

    def thing_now(self, make):
        """The make's thing, made by the changes of its way; nothing is counted as spent."""
        first, *others = self.way_now(make)
        thing = self.kept[first]
        for passed in others:
            thing = changed(thing, self.kept[passed])
        return thing

    def room_now(self):
        """What all makes take together."""
        return sum([self.takes(make) for make in self.ons])

    def spent_now(self):
        """What all fetches read together."""
        return self.spent

    def stock_now(self):
        """The stock of the things, makes numbered by their rising order."""
        return stock_of([self.thing_now(make) for make in self.makes_now()])

    def laying_now(self):
        """The laying of the makes, numbered by their rising order."""
        makes = self.makes_now()
        places = {make: place for place, make in enumerate(makes)}
        return tuple([None if self.ons[make] is None else places[self.ons[make]] for make in makes])

    def tidy(self):
        """Keep all makes by a laying of least room; tells the pair of the rooms ahead and behind."""
        ahead = self.room_now()
        makes = self.makes_now()
        # All of them ahead of the first one that is laid anew, as then the old ways are cut.
        things = [self.thing_now(make) for make in makes]
        laying = least_room(stock_of(things))[1]
        self.begin("tidy")
        for make, thing, on in zip(makes, things, laying):
            if on is None:
                self.keep(make, None, thing)
            else:
                self.keep(make, makes[on], least_change(things[on], thing))
        return (ahead, self.room_now())

    def forget(self, make):
        """Let a make go; tells the rising tuple of those that rested on it straight and are laid anew."""
        self.look_for(make)
        straight = [other for other in self.makes_now() if self.ons[other] == make]
        self.begin("forget")
        for other in straight:
            self.keep(other, None, self.thing_now(other))
        del self.ons[make], self.kept[make]
        for other in straight:
            self.lay_least(other)
        return tuple(straight)

    def undo(self):
        """Take back the last deed that is still done; tells its word, None where there is none."""
        if not self.deeds:
            return None
        word, ons, kept, given = self.deeds.pop()
        self.ons = ons
        self.kept = kept
        self.given = given
        return word

    def begin(self, word):
        """Remember how all is ahead of a deed."""
        self.deeds.append((word, dict(self.ons), dict(self.kept), self.given))

    def look_for(self, make):
        """Refuse a make that isn't there."""
        if make not in self.ons:
            raise NoMake(f"there is no make {make}")

    def keep(self, make, on, kept):
        self.ons[make] = on
        self.kept[make] = kept

    def takes(self, make):
        """What a make takes as it is kept."""
        return whole_size(self.kept[make]) if self.ons[make] is None else change_size(self.kept[make])

    def lay_least(self, make):
        """Lay a whole make on the one of which its least change is least, where this takes less."""
        thing = self.kept[make]
        least = whole_size(thing)
        for other in self.makes_now():
            if make not in way(self.ons, other):
                change = least_change(self.thing_now(other), thing)
                # Only less is better: of equal ones the least number stays.
                if change_size(change) < least:
                    least = change_size(change)
                    self.keep(make, other, change)
