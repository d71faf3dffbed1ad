"""shelf.py: promises [14] and [15], and what [1] and [2] say of them."""

import copy
import random
import unittest

from keepwhole.changes import change_size, changed, least_change, whole_size
from keepwhole.errors import KeepError, Loop, NoMake
from keepwhole.layings import is_laying, reads, room, stock_of, way
from keepwhole.leastroom import least_room
from keepwhole.pricecheck import shows_least_room
from keepwhole.shelf import Shelf
from tests.helper import all_come_to, reads_laid, room_laid

A = (1, 2, 3, 4, 5, 6, 7, 8)
B = A + (9,)
C = (9,) + A
D = (5, 5)
EMPTY = ()


def change_takes(old, new):
    return change_size(least_change(old, new))


class Model:
    """What the document says of a shelf, gone by plainly: things kept whole beside who rests on whom."""

    def __init__(self):
        self.things = {}
        self.ons = {}
        self.number = 0
        self.spent = 0
        self.ahead = []

    def deed(self, word):
        self.ahead.append((word, dict(self.things), dict(self.ons), self.number))

    def way(self, make):
        found = [make]
        while self.ons[found[0]] is not None:
            found.insert(0, self.ons[found[0]])
        return tuple(found)

    def takes(self, make):
        on = self.ons[make]
        return whole_size(self.things[make]) if on is None else change_takes(self.things[on], self.things[make])

    def put(self, thing):
        self.deed("put")
        self.things[self.number] = thing
        self.ons[self.number] = None
        self.number += 1
        return self.number - 1

    def rest(self, make, on):
        if make not in self.things or on is not None and on not in self.things:
            return NoMake
        if on is not None and make in self.way(on):
            return Loop
        self.deed("rest")
        self.ons[make] = on
        return self.takes(make)

    def fetch(self, make):
        if make not in self.things:
            return NoMake
        read = sum(self.takes(passed) for passed in self.way(make))
        self.spent += read
        return (self.things[make], read)

    def tidy(self):
        self.deed("tidy")
        ahead = sum(map(self.takes, self.things))
        makes = sorted(self.things)
        laying = least_room(stock_of([self.things[make] for make in makes]))[1]
        self.ons = {make: None if on is None else makes[on] for make, on in zip(makes, laying)}
        return (ahead, sum(map(self.takes, self.things)))

    def forget(self, make):
        if make not in self.things:
            return NoMake
        self.deed("forget")
        straight = sorted(other for other, on in self.ons.items() if on == make)
        del self.things[make], self.ons[make]
        self.ons.update(dict.fromkeys(straight))
        for other in straight:
            near = [(change_takes(self.things[on], self.things[other]), on)
                    for on in sorted(self.things) if other not in self.way(on)]
            if near and min(near)[0] < whole_size(self.things[other]):
                self.ons[other] = min(near)[1]
        return tuple(straight)

    def undo(self):
        if not self.ahead:
            return None
        word, self.things, self.ons, self.number = self.ahead.pop()
        return word


def refusal_or(ask, *given):
    """What is told, or the class of what is refused."""
    try:
        return ask(*given)
    except KeepError as refused:
        return type(refused)


def some_thing(chance, things):
    """A thing by chance, often one of the others a little changed, now and then just one of them."""
    if not things or chance.randrange(5) == 0:
        return tuple(chance.randrange(4) for _ in range(chance.choice([0, 1, 2, 5, 12, 24])))
    cells = list(chance.choice(things))
    for _ in range(chance.randrange(3)):
        at = chance.randint(0, len(cells))
        cells[at:at + chance.randrange(3)] = [chance.randrange(1000) for _ in range(chance.randrange(3))]
    return tuple(cells[:24])


class Shelves(unittest.TestCase):
    def state(self, shelf):
        """All that a shelf tells of itself but what was spent, each kind looked at."""
        makes = shelf.makes_now()
        self.assertIs(type(makes), list)
        self.assertEqual({type(make) for make in makes} | {int}, {int})
        ons = [shelf.on_now(make) for make in makes]
        ways = [shelf.way_now(make) for make in makes]
        self.assertLessEqual({type(one) for one in ways}, {tuple})
        takes = shelf.room_now()
        self.assertIs(type(takes), int)
        return (makes, ons, ways, takes, shelf.stock_now(), shelf.laying_now())

    def holds(self, shelf):
        """What holds of any shelf, by what it tells of itself."""
        makes, ons, ways, takes, stock, laying = self.state(shelf)
        self.assertEqual(makes, sorted(set(makes)))
        places = {make: place for place, make in enumerate(makes)}
        self.assertEqual(laying, tuple(None if on is None else places[on] for on in ons))
        self.assertIs(type(laying), tuple)
        self.assertIs(is_laying(stock, laying), True)
        self.assertTrue(all_come_to(laying))
        self.assertEqual((takes, takes), (room(stock, laying), room_laid(stock, laying)))
        for place, found in enumerate(ways):
            self.assertEqual(tuple(places[make] for make in found), way(laying, place))

    def same_as(self, shelf, model):
        makes, ons, ways, takes, stock, laying = self.state(shelf)
        self.assertEqual(makes, sorted(model.things))
        self.assertEqual(ons, [model.ons[make] for make in makes])
        self.assertEqual(ways, [model.way(make) for make in makes])
        self.assertEqual(takes, sum(map(model.takes, makes)))
        self.assertEqual(stock, stock_of([model.things[make] for make in makes]))
        self.assertEqual(laying, tuple(None if on is None else makes.index(on) for on in ons))
        self.assertEqual(shelf.spent_now(), model.spent)

    def fetched(self, shelf):
        """All things on the shelf by their makes; what was spent rises by what is told as read."""
        things = {}
        for make in shelf.makes_now():
            spent = shelf.spent_now()
            told = shelf.fetch(make)
            self.assertEqual([type(told), *map(type, told)], [tuple, tuple, int])
            self.assertEqual(shelf.spent_now(), spent + told[1])
            things[make] = told[0]
        return things

    def refused(self, shelf, kind, ask, *given):
        """The refusal, by just this class, which changes nothing."""
        before = (self.state(shelf), shelf.spent_now())
        with self.assertRaises(kind) as caught:
            ask(*given)
        self.assertIs(type(caught.exception), kind)
        self.assertEqual((self.state(shelf), shelf.spent_now()), before)

    def filled(self, *things):
        shelf = Shelf()
        for make, thing in enumerate(things):
            self.assertEqual(shelf.put(thing), make)
        return shelf


class Putting(Shelves):
    def test_without_makes(self):
        shelf = Shelf()
        self.assertEqual(self.state(shelf), ([], [], [], 0, ((), ()), ()))
        self.assertEqual(shelf.spent_now(), 0)
        self.assertIs(type(shelf.spent_now()), int)
        self.assertIsNone(shelf.undo())
        for make in (0, 1, -1, 12, 9999):
            for ask in (shelf.fetch, shelf.on_now, shelf.way_now, shelf.forget):
                self.refused(shelf, NoMake, ask, make)
            for on in (None, 0, 1, make):
                self.refused(shelf, NoMake, shelf.rest, make, on)
        self.assertIsNone(shelf.undo())
        self.assertEqual(shelf.put(A), 0)

    def test_put_is_kept_whole(self):
        shelf = Shelf()
        things = [A, EMPTY, B, A, (0,), (999,) * 24, C, EMPTY, D, A, B, C]
        for make, thing in enumerate(things):
            number = shelf.put(thing)
            self.assertEqual((number, type(number)), (make, int))
            self.assertIsNone(shelf.on_now(make))
            self.assertEqual(shelf.way_now(make), (make,))
            self.assertEqual(shelf.makes_now(), list(range(make + 1)))
            self.assertEqual(shelf.room_now(), sum(map(whole_size, things[:make + 1])))
            self.holds(shelf)
        self.assertEqual(self.fetched(shelf), dict(enumerate(things)))
        self.assertEqual(shelf.spent_now(), sum(map(whole_size, things)))

    def test_makes_gone_and_never_there(self):
        shelf = self.filled(A, B, C)
        shelf.rest(2, 0)
        shelf.forget(1)
        for make in (1, 3, -1, 4, 12):
            for ask in (shelf.fetch, shelf.on_now, shelf.way_now, shelf.forget):
                self.refused(shelf, NoMake, ask, make)
            for on in (None, 0, 2, make, 1, 3):
                self.refused(shelf, NoMake, shelf.rest, make, on)
            for there in (0, 2):
                self.refused(shelf, NoMake, shelf.rest, there, make)
        # None of these was a deed.
        self.assertEqual([shelf.undo() for _ in range(6)], ["forget", "rest", "put", "put", "put", None])

    def test_no_number_twice(self):
        shelf = self.filled(A, B)
        shelf.forget(1)
        self.assertEqual(shelf.put(C), 2)
        shelf.forget(0)
        shelf.forget(2)
        self.assertEqual(shelf.makes_now(), [])
        self.assertEqual(shelf.put(D), 3)
        self.assertEqual(shelf.makes_now(), [3])
        self.assertEqual(shelf.fetch(3), (D, 3))


class Resting(Shelves):
    def test_on_another_and_whole_again(self):
        shelf = self.filled(A, B, C)
        told = shelf.rest(1, 0)
        self.assertEqual((told, type(told)), (5, int))
        self.assertEqual(self.state(shelf)[:4], ([0, 1, 2], [None, 0, None], [(0,), (0, 1), (2,)], 24))
        self.assertEqual(shelf.rest(2, 1), change_takes(B, C))
        self.assertEqual(shelf.way_now(2), (0, 1, 2))
        self.holds(shelf)
        self.assertEqual(shelf.rest(2, None), 10)
        self.assertEqual(shelf.rest(2, 0), 5)
        self.assertEqual(shelf.laying_now(), (None, 0, 0))
        self.assertEqual(self.fetched(shelf), {0: A, 1: B, 2: C})
        self.assertEqual(shelf.spent_now(), 9 + 14 + 14)

    def test_whole_where_it_is_whole_and_again_on_the_same(self):
        shelf = self.filled(A, B)
        self.assertEqual(shelf.rest(0, None), 9)
        self.assertEqual(shelf.rest(1, 0), 5)
        self.assertEqual(shelf.rest(1, 0), 5)
        self.assertEqual(shelf.laying_now(), (None, 0))
        # Each was a deed.
        self.assertEqual([shelf.undo() for _ in range(5)], ["rest"] * 3 + ["put"] * 2)

    def test_a_change_that_takes_more_than_the_whole(self):
        shelf = self.filled(A, D)
        self.assertEqual(shelf.rest(1, 0), 4)
        self.assertEqual(shelf.room_now(), 13)
        self.assertEqual(shelf.fetch(1), (D, 13))
        shelf = self.filled(A, EMPTY)
        self.assertEqual(shelf.rest(1, 0), 1)
        self.assertEqual(shelf.fetch(1), (EMPTY, 10))
        shelf = self.filled(EMPTY, A)
        self.assertEqual(shelf.rest(1, 0), 10)
        self.assertEqual(shelf.fetch(1), (A, 11))

    def test_in_a_ring(self):
        shelf = self.filled(A, B, C, D)
        for make in range(4):
            self.refused(shelf, Loop, shelf.rest, make, make)
        shelf.rest(1, 0)
        shelf.rest(2, 1)
        shelf.rest(3, 2)
        for make, on in [(0, 0), (0, 1), (0, 2), (0, 3), (1, 1), (1, 2), (1, 3), (2, 2), (2, 3), (3, 3)]:
            self.refused(shelf, Loop, shelf.rest, make, on)
        for make, on in [(3, 0), (3, 1), (2, 0), (0, None)]:
            self.assertIs(type(shelf.rest(make, on)), int)
            self.holds(shelf)
        self.assertEqual(shelf.laying_now(), (None, 0, 0, 1))
        # None that was refused was a deed.
        self.assertEqual([shelf.undo() for _ in range(12)], ["rest"] * 7 + ["put"] * 4 + [None])

    def test_no_make_ahead_of_a_ring(self):
        shelf = self.filled(A)
        for make, on in [(1, 1), (7, 7), (-1, -1), (0, 1), (1, 0)]:
            self.refused(shelf, NoMake, shelf.rest, make, on)
        self.refused(shelf, Loop, shelf.rest, 0, 0)
        shelf.put(B)
        shelf.rest(1, 0)
        shelf.forget(0)
        for make, on in [(0, 0), (0, 1), (1, 0)]:
            self.refused(shelf, NoMake, shelf.rest, make, on)

    def test_those_that_rest_on_it_go_with_it(self):
        shelf = self.filled(A, B, C, D)
        shelf.rest(1, 0)
        shelf.rest(2, 1)
        shelf.rest(1, 3)
        self.assertEqual(self.state(shelf)[2], [(0,), (3, 1), (3, 1, 2), (3,)])
        self.assertEqual(self.fetched(shelf), {0: A, 1: B, 2: C, 3: D})
        shelf.rest(1, None)
        self.assertEqual(shelf.way_now(2), (1, 2))
        self.assertEqual(self.fetched(shelf), {0: A, 1: B, 2: C, 3: D})

    def test_a_long_way(self):
        chance = random.Random(140)
        things = [tuple(chance.randrange(1000) for _ in range(24))]
        for _ in range(11):
            at = chance.randrange(24)
            things.append(things[-1][:at] + (chance.randrange(1000),) + things[-1][at + 1:])
        shelf = self.filled(*things)
        for make in range(1, 12):
            shelf.rest(make, make - 1)
        self.assertEqual(shelf.way_now(11), tuple(range(12)))
        self.assertEqual(shelf.laying_now(), (None, *range(11)))
        self.holds(shelf)
        self.assertEqual(self.fetched(shelf), dict(enumerate(things)))
        self.assertEqual(shelf.fetch(11)[1], shelf.room_now())


class Fetching(Shelves):
    def test_the_thing_and_what_was_read(self):
        shelf = self.filled(A, B, C, EMPTY)
        shelf.rest(1, 0)
        shelf.rest(2, 1)
        numbers = reads(shelf.stock_now(), shelf.laying_now())
        self.assertEqual(numbers, reads_laid(shelf.stock_now(), shelf.laying_now()))
        spent = 0
        for make, thing in [(0, A), (1, B), (2, C), (3, EMPTY), (2, C), (2, C), (0, A)]:
            self.assertEqual(shelf.fetch(make), (thing, numbers[make]))
            spent += numbers[make]
            self.assertEqual(shelf.spent_now(), spent)

    def test_nothing_else_is_spent(self):
        shelf = self.filled(A, B, C)
        shelf.rest(1, 0)
        shelf.tidy()
        shelf.forget(0)
        self.state(shelf)
        shelf.undo()
        self.refused(shelf, NoMake, shelf.fetch, 7)
        self.assertEqual(shelf.spent_now(), 0)

    def test_it_is_no_deed(self):
        shelf = self.filled(A)
        shelf.fetch(0)
        shelf.fetch(0)
        self.assertEqual([shelf.undo(), shelf.undo()], ["put", None])
        self.assertEqual(shelf.spent_now(), 18)

    def test_equal_things_under_several_numbers(self):
        shelf = self.filled(A, A, A, EMPTY, EMPTY)
        self.assertEqual(shelf.rest(1, 0), 3)
        self.assertEqual(shelf.rest(4, 3), 1)
        self.assertEqual(shelf.rest(2, 1), 3)
        self.assertEqual(self.fetched(shelf), {0: A, 1: A, 2: A, 3: EMPTY, 4: EMPTY})
        self.assertEqual(shelf.forget(0), (1,))
        # 1 rests on no other: 2 rests on it, and of 3 or 4 its change takes more than it whole.
        self.assertEqual(self.state(shelf)[1], [None, 1, None, 3])
        self.assertEqual(self.fetched(shelf), {1: A, 2: A, 3: EMPTY, 4: EMPTY})
        self.holds(shelf)


class Numbering(Shelves):
    def test_stock_and_laying_where_some_are_forgotten(self):
        shelf = self.filled(A, D, B, EMPTY, C)
        shelf.rest(4, 2)
        shelf.rest(2, 0)
        shelf.forget(1)
        self.assertEqual(shelf.makes_now(), [0, 2, 3, 4])
        self.assertEqual(shelf.stock_now(), stock_of([A, B, EMPTY, C]))
        self.assertEqual(shelf.laying_now(), (None, 0, None, 1))
        self.holds(shelf)
        shelf.forget(3)
        self.assertEqual(shelf.stock_now(), stock_of([A, B, C]))
        self.assertEqual(shelf.laying_now(), (None, 0, 1))
        self.assertEqual(shelf.on_now(4), 2)
        self.assertEqual(shelf.way_now(4), (0, 2, 4))

    def test_resting_on_a_later_make(self):
        shelf = self.filled(D, A, B, C)
        shelf.forget(0)
        shelf.rest(1, 3)
        shelf.rest(2, 1)
        self.assertEqual(shelf.laying_now(), (2, 0, None))
        self.assertEqual(self.state(shelf)[1], [3, 1, None])
        self.holds(shelf)


class Tidying(Shelves):
    def test_without_makes(self):
        shelf = Shelf()
        self.assertEqual(shelf.tidy(), (0, 0))
        self.assertEqual([shelf.undo(), shelf.undo()], ["tidy", None])

    def test_by_the_least_room(self):
        shelf = self.filled(A, B, D, C, EMPTY)
        things = self.fetched(shelf)
        ahead = shelf.room_now()
        least = least_room(shelf.stock_now())
        told = shelf.tidy()
        self.assertEqual(told, (ahead, least[0]))
        self.assertEqual([type(told), *map(type, told)], [tuple, int, int])
        self.assertLess(told[1], told[0])
        self.assertEqual(shelf.laying_now(), least[1])
        self.assertEqual(shelf.room_now(), told[1])
        self.assertTrue(shows_least_room(shelf.stock_now(), (told[1], shelf.laying_now(), least[2])))
        self.holds(shelf)
        self.assertEqual(self.fetched(shelf), things)
        self.assertEqual(shelf.tidy(), (told[1], told[1]))

    def test_from_any_laying(self):
        """Ways turned about: those that rested are rested on."""
        for rests in [[(0, 1), (1, 2), (2, 3)], [(3, 2), (2, 1), (1, 0)], [(0, 2), (1, 2), (3, 2)], [(1, 3), (0, 3)]]:
            shelf = self.filled(A, B, C, B + (4, 4))
            for make, on in rests:
                shelf.rest(make, on)
            ahead = shelf.room_now()
            least = least_room(shelf.stock_now())
            self.assertEqual(shelf.tidy(), (ahead, least[0]))
            self.assertEqual(shelf.laying_now(), least[1])
            self.holds(shelf)
            self.assertEqual(self.fetched(shelf), {0: A, 1: B, 2: C, 3: B + (4, 4)})
            self.assertEqual(shelf.undo(), "tidy")
            self.assertEqual(shelf.room_now(), ahead)
            self.assertEqual([(make, shelf.on_now(make)) for make, _ in rests], rests)

    def test_where_some_are_forgotten(self):
        shelf = self.filled(D, A, EMPTY, B, C)
        shelf.forget(0)
        shelf.forget(2)
        self.assertEqual(shelf.tidy()[1], least_room(stock_of([A, B, C]))[0])
        self.assertEqual(shelf.laying_now(), least_room(stock_of([A, B, C]))[1])
        self.holds(shelf)
        self.assertEqual(self.fetched(shelf), {1: A, 3: B, 4: C})

    def test_it_counts_as_one_deed(self):
        shelf = self.filled(A, B, C)
        shelf.rest(0, 2)
        before = self.state(shelf)
        shelf.tidy()
        shelf.tidy()
        self.assertEqual([shelf.undo(), shelf.undo()], ["tidy", "tidy"])
        self.assertEqual(self.state(shelf), before)


class Forgetting(Shelves):
    def test_on_which_none_rests(self):
        shelf = self.filled(A, B, C)
        shelf.rest(1, 0)
        told = shelf.forget(1)
        self.assertEqual((told, type(told)), ((), tuple))
        self.assertEqual(self.state(shelf)[:4], ([0, 2], [None, None], [(0,), (2,)], 19))
        self.assertEqual(shelf.forget(0), ())
        self.assertEqual(shelf.forget(2), ())
        self.assertEqual(self.state(shelf), ([], [], [], 0, ((), ()), ()))

    def test_those_that_rested_on_it_straight(self):
        shelf = self.filled(A, B, C, D, B + (1,))
        for make, on in [(4, 0), (1, 0), (2, 1)]:
            shelf.rest(make, on)
        told = shelf.forget(0)
        self.assertEqual((told, [type(make) for make in told]), ((1, 4), [int, int]))
        # 1 finds 4, as 2 rests on it; 4 then may not rest on 1.
        self.assertEqual(self.state(shelf)[:2], ([1, 2, 3, 4], [4, 1, None, None]))
        self.assertEqual(self.fetched(shelf), {1: B, 2: C, 3: D, 4: B + (1,)})
        self.holds(shelf)

    def test_the_least_change_and_of_equal_ones_the_least_number(self):
        base = (1, 2, 3, 4, 5, 6, 7, 8, 9, 10)
        near = base + (11,)
        # 3 rests on 0; both 2 and 4 are as near to it, 1 is farther, 5 is far.
        shelf = self.filled(base, base[:6], near, base, near, D)
        shelf.rest(3, 0)
        self.assertEqual(change_takes(near, base), 3)
        self.assertEqual(change_takes(base[:6], base), 8)
        self.assertEqual(shelf.forget(0), (3,))
        self.assertEqual(shelf.on_now(3), 2)
        # With 2 gone as well the next one is 4, then the farther one.
        self.assertEqual(shelf.forget(2), (3,))
        self.assertEqual(shelf.on_now(3), 4)
        self.assertEqual(shelf.forget(4), (3,))
        self.assertEqual(shelf.on_now(3), 1)
        self.assertEqual(shelf.forget(1), (3,))
        self.assertIsNone(shelf.on_now(3))
        self.assertEqual(self.fetched(shelf), {3: base, 5: D})
        self.assertEqual([shelf.undo() for _ in range(4)], ["forget"] * 4)
        self.assertEqual(shelf.laying_now(), (None, None, None, 0, None, None))

    def test_a_nearer_one_with_a_greater_number(self):
        base = (1, 2, 3, 4, 5, 6, 7, 8, 9, 10)
        shelf = self.filled(base[:5], base, base, base + (3,))
        shelf.rest(1, 2)
        self.assertEqual(shelf.forget(2), (1,))
        self.assertEqual(shelf.on_now(1), 3)

    def test_whole_where_no_change_takes_less(self):
        # Two cells: whole 3; as a keep of both out of more it takes 3 as well.
        shelf = self.filled((1, 2), (1, 2), (1, 2, 3))
        shelf.rest(1, 0)
        self.assertEqual(change_takes((1, 2, 3), (1, 2)), whole_size((1, 2)))
        self.assertEqual(shelf.forget(0), (1,))
        self.assertIsNone(shelf.on_now(1))
        # Three cells: whole 4, the keep takes less by 1.
        shelf = self.filled((1, 2, 3), (1, 2, 3), (1, 2, 3, 4))
        shelf.rest(1, 0)
        self.assertEqual(shelf.forget(0), (1,))
        self.assertEqual(shelf.on_now(1), 2)
        # Nothing but itself.
        shelf = self.filled(A, B)
        shelf.rest(1, 0)
        self.assertEqual(shelf.forget(0), (1,))
        self.assertEqual(self.state(shelf)[:4], ([1], [None], [(1,)], 10))
        # An empty one takes 1, and as a change 1 as well.
        shelf = self.filled(A, EMPTY, EMPTY, B)
        shelf.rest(1, 0)
        self.assertEqual(shelf.forget(0), (1,))
        self.assertIsNone(shelf.on_now(1))

    def test_by_rising_numbers(self):
        """The first one rests on a later one, which then may not rest on it; the third one may, on each."""
        shelf = self.filled(A, A, A, A)
        for make in (3, 1, 2):
            shelf.rest(make, 0)
        self.assertEqual(shelf.forget(0), (1, 2, 3))
        self.assertEqual(self.state(shelf)[:2], ([1, 2, 3], [2, 3, None]))
        self.holds(shelf)
        # Where one is there that rested not: all find it first, having the least number.
        shelf = self.filled(A, A, A, A)
        for make in (1, 2, 3):
            shelf.rest(make, 0)
        shelf.rest(1, None)
        self.assertEqual(shelf.forget(0), (2, 3))
        self.assertEqual(self.state(shelf)[:2], ([1, 2, 3], [None, 1, 1]))

    def test_not_on_one_whose_way_goes_over_it(self):
        shelf = self.filled(A, A, A, A)
        shelf.rest(1, 0)
        shelf.rest(2, 1)
        shelf.rest(3, 2)
        self.assertEqual(shelf.forget(0), (1,))
        self.assertEqual(self.state(shelf)[:2], ([1, 2, 3], [None, 1, 2]))
        # 2 and 3 stand over 1 only as long as 2 rests on it.
        shelf.rest(2, None)
        shelf.put(B)
        shelf.rest(1, 4)
        self.assertEqual(shelf.forget(4), (1,))
        self.assertEqual(self.state(shelf)[:2], ([1, 2, 3], [2, None, 2]))

    def test_on_the_one_on_which_the_forgotten_rested(self):
        shelf = self.filled(A, B, B + (1,), D)
        shelf.rest(1, 0)
        shelf.rest(2, 1)
        self.assertEqual(shelf.forget(1), (2,))
        self.assertEqual(self.state(shelf)[1], [None, 0, None])
        self.assertEqual(shelf.fetch(2), (B + (1,), 9 + change_takes(A, B + (1,))))

    def test_on_an_earlier_one_that_was_laid_anew(self):
        # 1 stays whole at first and then rests on 3; 2 rests on 1 as that is nearest, by its way over 3.
        shelf = self.filled(A, B, B + (1,), A + (7,) * 9)
        shelf.rest(1, 0)
        shelf.rest(2, 0)
        model = Model()
        for thing in (A, B, B + (1,), A + (7,) * 9):
            model.put(thing)
        model.rest(1, 0)
        model.rest(2, 0)
        self.assertEqual(shelf.forget(0), model.forget(0))
        self.same_as(shelf, model)

    def test_all_others_rest_as_they_did(self):
        shelf = self.filled(A, B, C, A, B)
        shelf.rest(1, 0)
        shelf.rest(3, 2)
        shelf.rest(4, 3)
        self.assertEqual(shelf.forget(0), (1,))
        self.assertEqual(self.state(shelf)[:2], ([1, 2, 3, 4], [4, None, 2, 3]))
        # That nearer ones are there is not looked at for those that did not rest on it straight.
        self.assertEqual(shelf.forget(3), (4,))
        self.assertEqual(shelf.on_now(1), 4)


class Undoing(Shelves):
    def test_each_deed(self):
        shelf = self.filled(A, B, C, D)
        shelf.rest(1, 0)
        shelf.rest(2, 1)
        before = self.state(shelf)
        things = self.fetched(shelf)
        for word, ask, given in [
            ("put", shelf.put, (A,)), ("rest", shelf.rest, (3, 2)), ("rest", shelf.rest, (2, None)),
            ("rest", shelf.rest, (1, 3)), ("tidy", shelf.tidy, ()), ("forget", shelf.forget, (0,)),
            ("forget", shelf.forget, (1,)), ("forget", shelf.forget, (2,)), ("forget", shelf.forget, (3,)),
        ]:
            first = ask(*given)
            told = shelf.undo()
            self.assertEqual((told, type(told)), (word, str))
            self.assertEqual(self.state(shelf), before)
            self.assertEqual(self.fetched(shelf), things)
            # Done again it tells the same.
            self.assertEqual(ask(*given), first)
            self.assertEqual(shelf.undo(), word)

    def test_several_one_behind_another(self):
        shelf = Shelf()
        states = []
        for ask, given in [
            (shelf.put, (A,)), (shelf.put, (B,)), (shelf.rest, (1, 0)), (shelf.put, (C,)), (shelf.rest, (2, 1)),
            (shelf.forget, (0,)), (shelf.put, (D,)), (shelf.tidy, ()), (shelf.rest, (3, None)), (shelf.forget, (1,)),
            (shelf.forget, (2,)), (shelf.put, (EMPTY,)), (shelf.tidy, ()),
        ]:
            states.append(self.state(shelf))
            ask(*given)
        words = []
        while states:
            words.append(shelf.undo())
            self.assertEqual(self.state(shelf), states.pop())
        self.assertEqual(words, ["tidy", "put", "forget", "forget", "rest", "tidy", "put", "forget", "rest", "put",
                                 "rest", "put", "put"])
        self.assertEqual([shelf.undo(), shelf.undo()], [None, None])

    def test_a_put_taken_back_gives_its_number_again(self):
        shelf = self.filled(A, B)
        shelf.undo()
        self.assertEqual(shelf.makes_now(), [0])
        for ask in (shelf.fetch, shelf.on_now, shelf.way_now, shelf.forget):
            self.refused(shelf, NoMake, ask, 1)
        self.assertEqual(shelf.put(C), 1)
        self.assertEqual(shelf.fetch(1), (C, 10))
        # A number that was forgotten is given again only where its put is taken back.
        shelf.forget(1)
        self.assertEqual(shelf.put(D), 2)
        self.assertEqual([shelf.undo(), shelf.undo()], ["put", "forget"])
        self.assertEqual(shelf.makes_now(), [0, 1])
        self.assertEqual(shelf.put(D), 2)
        self.assertEqual([shelf.undo(), shelf.undo(), shelf.undo()], ["put", "put", "put"])
        self.assertEqual(shelf.put(EMPTY), 0)

    def test_what_was_spent_stays(self):
        shelf = self.filled(A)
        shelf.fetch(0)
        shelf.put(B)
        shelf.fetch(1)
        self.assertEqual(shelf.undo(), "put")
        self.assertEqual(shelf.spent_now(), 19)
        self.assertEqual(shelf.undo(), "put")
        self.assertEqual(shelf.spent_now(), 19)
        self.assertIsNone(shelf.undo())
        self.assertEqual(shelf.spent_now(), 19)

    def test_it_is_no_deed_itself(self):
        shelf = self.filled(A, B)
        shelf.undo()
        shelf.put(C)
        self.assertEqual([shelf.undo(), shelf.undo(), shelf.undo(), shelf.undo()], ["put", "put", None, None])
        self.assertEqual(shelf.put(A), 0)

    def test_two_hundred_deeds(self):
        chance = random.Random(141)
        shelf = self.filled(*[some_thing(chance, [A, B, C]) for _ in range(12)])
        states = [self.state(shelf)]
        for at in range(188):
            if at % 40 == 39:
                shelf.tidy()
            else:
                make, on = chance.sample(range(12), 2)
                shelf.rest(make, None if make in shelf.way_now(on) else on)
            if at % 20 == 0:
                states.append(self.state(shelf))
        words = []
        for at in reversed(range(188)):
            if at % 20 == 0:
                self.assertEqual(self.state(shelf), states.pop())
            words.append(shelf.undo())
        self.assertEqual(self.state(shelf), states.pop())
        self.assertEqual((words.count("tidy"), words.count("rest")), (4, 184))
        self.assertEqual([shelf.undo() for _ in range(13)], ["put"] * 12 + [None])


class Playing(Shelves):
    def test_by_chance_as_the_words_say(self):
        chance = random.Random(142)
        counts = {}
        for _ in range(60):
            shelf, model = Shelf(), Model()
            for _ in range(60):
                word = chance.choice(["put"] * 5 + ["rest"] * 9 + ["fetch", "tidy", "forget", "forget", "undo", "undo"])
                # Mostly those that are there; else those that are gone, or never were, as well.
                makes = sorted(model.things) * (chance.randrange(6) > 0) or range(-1, model.number + 2)
                given = {
                    "put": lambda: (some_thing(chance, list(model.things.values())),),
                    "rest": lambda: (chance.choice(makes), chance.choice([None, *makes])),
                    "fetch": lambda: (chance.choice(makes),), "forget": lambda: (chance.choice(makes),),
                    "tidy": lambda: (), "undo": lambda: (),
                }[word]()
                if word == "put" and model.number == 12:
                    continue
                if word == "tidy" and chance.randrange(3):
                    continue
                before = copy.deepcopy(given)
                told = refusal_or(getattr(shelf, word), *given)
                self.assertEqual(told, getattr(model, word)(*given), (word, given))
                self.assertEqual(given, before)
                self.same_as(shelf, model)
                if told in (NoMake, Loop):
                    word = told.__name__
                counts[word] = counts.get(word, 0) + 1
            self.holds(shelf)
            self.assertEqual(self.fetched(shelf), model.things)
        self.assertGreater(min(counts.values()), 20, counts)
        self.assertEqual(len(counts), 8, counts)

    def test_forgotten_ones_on_which_many_rest(self):
        chance = random.Random(143)
        several = rested = whole = 0
        for _ in range(80):
            shelf, model = Shelf(), Model()
            for _ in range(chance.randint(3, 12)):
                thing = some_thing(chance, list(model.things.values()))
                self.assertEqual(shelf.put(thing), model.put(thing))
            hub = chance.randrange(model.number)
            for make in chance.sample(range(model.number), model.number):
                on = chance.choice([hub, hub, hub, chance.randrange(model.number)])
                self.assertEqual(refusal_or(shelf.rest, make, on), model.rest(make, on))
            for make in [hub, *chance.sample(range(model.number), model.number)][:5]:
                things = dict(model.things)
                told = refusal_or(shelf.forget, make)
                self.assertEqual(told, model.forget(make))
                self.same_as(shelf, model)
                self.holds(shelf)
                if told is not NoMake:
                    del things[make]
                    several += len(told) > 1
                    rested += sum(shelf.on_now(other) is not None for other in told)
                    whole += sum(shelf.on_now(other) is None for other in told)
                spent = shelf.spent_now()
                self.assertEqual(self.fetched(shelf), things)
                model.spent += shelf.spent_now() - spent
            for _ in range(3):
                self.assertEqual(shelf.undo(), model.undo())
                self.same_as(shelf, model)
        self.assertGreater(min(several, rested, whole), 60, (several, rested, whole))

    def test_two_by_turns(self):
        one, other = self.filled(A, B), self.filled(C, D)
        self.assertEqual(one.rest(1, 0), 5)
        self.assertEqual(other.laying_now(), (None, None))
        other.fetch(0)
        self.assertEqual((one.spent_now(), other.spent_now()), (0, 10))
        self.assertEqual(other.put(EMPTY), 2)
        self.assertEqual(one.makes_now(), [0, 1])
        self.assertEqual(one.put(EMPTY), 2)
        self.assertEqual(other.forget(0), ())
        self.assertEqual(self.fetched(one), {0: A, 1: B, 2: EMPTY})
        self.assertEqual([other.undo(), one.undo(), one.undo(), other.undo()], ["forget", "put", "rest", "put"])
        self.assertEqual(self.fetched(one), {0: A, 1: B})
        self.assertEqual(self.fetched(other), {0: C, 1: D})

    def test_told_lists_are_the_askers_own(self):
        shelf = self.filled(A, B, C)
        makes = shelf.makes_now()
        again = shelf.makes_now()
        self.assertIsNot(makes, again)
        makes.append(7)
        makes.reverse()
        self.assertEqual(again, [0, 1, 2])
        self.assertEqual(shelf.makes_now(), [0, 1, 2])
        shelf.put(D)
        shelf.forget(0)
        self.assertEqual(again, [0, 1, 2])
        self.assertEqual(shelf.makes_now(), [1, 2, 3])
        again.clear()
        self.assertEqual(shelf.makes_now(), [1, 2, 3])

    def test_asked_again_with_nothing_done_between(self):
        shelf = self.filled(A, B, C, D)
        shelf.rest(1, 0)
        shelf.rest(2, 1)
        other = self.filled(D, C)
        first = (self.state(shelf), shelf.spent_now())
        other.rest(0, 1)
        other.tidy()
        self.assertEqual((self.state(shelf), shelf.spent_now()), first)
        self.assertEqual(shelf.fetch(2), shelf.fetch(2))

    def test_what_was_told_may_be_handed_in_again(self):
        shelf = self.filled(A, B, C)
        thing, _ = shelf.fetch(1)
        self.assertEqual(shelf.put(thing), 3)
        self.assertEqual(shelf.rest(3, shelf.makes_now()[1]), change_takes(B, B))
        self.assertEqual(shelf.rest(2, shelf.on_now(3)), change_takes(B, C))
        self.assertEqual(shelf.rest(3, shelf.on_now(0)), 10)
        stock, laying = shelf.stock_now(), shelf.laying_now()
        self.assertEqual(room(stock, laying), shelf.room_now())
        self.assertEqual(changed(A, least_change(shelf.fetch(0)[0], shelf.fetch(2)[0])), C)


if __name__ == "__main__":
    unittest.main()
