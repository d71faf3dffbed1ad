"""The whole program: the five promises under [1], what [2] says of each function and method, and the interface."""

import copy
import importlib
import inspect
import random
import unittest

from keepwhole.between import between, is_even
from keepwhole.changes import change_size, changed, is_change, joined, least_change, whole_size
from keepwhole.errors import KeepError, Loop, NoMake
from keepwhole.growing import Growing, Newest
from keepwhole.layings import deep, is_laying, is_stock, reads, resting, room, stock_of, way
from keepwhole.leastroom import least_room
from keepwhole.pricecheck import shows_least_room
from keepwhole.readcheck import shows_between, shows_reads
from keepwhole.reading import least_reads, soonest
from keepwhole.rowbest import deep_for, not_beaten, reads_for, within_deep, within_reads
from keepwhole.rows import row_deep, row_laying, row_reads, row_room, row_stock
from keepwhole.rowsums import least_sum, shows_sum, sum_table
from keepwhole.shelf import Shelf
from keepwhole.sheet import run
from keepwhole.trying import all_layings, best_within
from tests.helper import (
    all_kept, even_stock, even_stocks, hub_stock, kept_sizes, lists_in, reads_laid, room_laid, some_row, some_rows,
    some_stocks, told)

GREAT = 10 ** 9

# Each name of the interface, with how many arguments are handed in by their places.
INTERFACE = {
    "changes": {"is_change": 2, "changed": 2, "whole_size": 1, "change_size": 1, "least_change": 2, "joined": 2},
    "layings": {"is_stock": 1, "is_laying": 2, "stock_of": 1, "room": 2, "way": 2, "deep": 2, "reads": 2, "resting": 2},
    "trying": {"all_layings": 1, "best_within": 3},
    "leastroom": {"least_room": 1}, "pricecheck": {"shows_least_room": 2},
    "reading": {"least_reads": 1, "soonest": 1}, "between": {"is_even": 1, "between": 3},
    "readcheck": {"shows_reads": 3, "shows_between": 4},
    "rows": {"row_stock": 1, "row_laying": 2, "row_room": 2, "row_reads": 2, "row_deep": 2},
    "rowbest": {"within_deep": 2, "within_reads": 2, "deep_for": 2, "reads_for": 2, "not_beaten": 1},
    "rowsums": {"least_sum": 3, "sum_table": 3, "shows_sum": 6},
    "growing": {"Growing": 0, "Newest": 1}, "shelf": {"Shelf": 0}, "sheet": {"run": 1},
    "errors": {"KeepError": 1, "NoMake": 1, "Loop": 1, "BadRow": 1},
}

METHODS = {
    ("growing", "Growing"): {"grown": 2, "row_now": 0, "kept_now": 0},
    ("growing", "Newest"): {"grown": 2, "laying_now": 0, "room_now": 0},
    ("shelf", "Shelf"): {
        "put": 1, "rest": 2, "fetch": 1, "makes_now": 0, "on_now": 1, "way_now": 1, "room_now": 0, "spent_now": 0,
        "stock_now": 0, "laying_now": 0, "tidy": 0, "forget": 1, "undo": 0},
}


def made_anew(chance, many):
    """A thing and what comes of it as it is made anew again and again, some makes of more than one of the others."""
    things = [tuple(chance.randrange(50) for _ in range(chance.randint(0, 24)))]
    while len(things) < many:
        cells = list(chance.choice(things[-3:]))
        for _ in range(chance.randint(0, 3)):
            at = chance.randint(0, len(cells))
            cells[at:at + chance.randrange(4)] = [chance.randrange(50) for _ in range(chance.randrange(4))]
        things.append(tuple(cells[:24]))
    return things


class Interface(unittest.TestCase):
    def takes(self, ask, many, name):
        """Whether so many arguments can be handed in by their places, and none else is asked for."""
        inspect.signature(ask).bind(*[None] * many)
        for other in (many - 1, many + 1):
            if other >= 0:
                self.assertRaises(TypeError, inspect.signature(ask).bind, *[None] * other)

    def test_names_and_arguments(self):
        for file, names in INTERFACE.items():
            module = importlib.import_module(f"keepwhole.{file}")
            for name, many in names.items():
                ask = getattr(module, name)
                self.assertEqual(ask.__module__, f"keepwhole.{file}")
                if file != "errors" or name == "BadRow":
                    self.takes(ask, many, name)
        for (file, name), methods in METHODS.items():
            kind = getattr(importlib.import_module(f"keepwhole.{file}"), name)
            self.assertIs(type(kind), type)
            made = kind(2) if name == "Newest" else kind()
            for method, many in methods.items():
                self.takes(getattr(made, method), many, method)


class ByTheirWays(unittest.TestCase):
    """Each make is come to by its way, and what is read by it is the thing itself."""

    def walked(self, things, laying):
        stock = stock_of(things)
        self.assertIs(is_laying(stock, laying), True)
        for make, thing in enumerate(things):
            first, *others = way(laying, make)
            self.assertIsNone(laying[first])
            self.assertEqual(deep(laying, make), len(others))
            got, read = things[first], whole_size(things[first])
            at_once = None
            for ahead, behind in zip([first, *others], others):
                self.assertEqual(laying[behind], ahead)
                change = least_change(things[ahead], things[behind])
                self.assertIs(is_change(got, change), True)
                got = changed(got, change)
                read += change_size(change)
                at_once = change if at_once is None else joined(at_once, change)
            self.assertEqual(got, thing)
            self.assertEqual(read, reads(stock, laying)[make])
            if at_once is not None:
                self.assertIs(is_change(things[first], at_once), True)
                self.assertEqual(changed(things[first], at_once), thing)
            for other in others + [first]:
                self.assertEqual(make in resting(laying, other), other != make)

    def test_layings_told(self):
        chance = random.Random(160)
        for many in [*range(1, 6), 8, 12]:
            for _ in range(3):
                things = made_anew(chance, many)
                stock = stock_of(things)
                self.walked(things, least_room(stock)[1])
                self.walked(things, soonest(stock))
                self.walked(things, (None, *range(many - 1)))
                self.walked(things, (*range(1, many), None))

    def test_all_layings_of_few(self):
        chance = random.Random(161)
        for many in (1, 2, 3):
            things = made_anew(chance, many)
            layings = all_layings(stock_of(things))
            self.assertEqual(len(layings), (many + 1) ** (many - 1))
            for laying in layings:
                self.walked(things, laying)

    def test_rows_and_rows_that_grow(self):
        chance = random.Random(162)
        for many in (1, 2, 7, 12):
            things = made_anew(chance, many)
            stock = stock_of(things)
            sizes = {(a, b): size for a, b, size in stock[1]}
            growing, newest = Growing(), Newest(3)
            for make in range(many):
                growing.grown(stock[0][make], sizes.get((make - 1, make), 0))
                newest.grown(stock[0][make], sizes.get((make, make - 1), 0))
            row = growing.row_now()
            self.walked(things, row_laying(row, growing.kept_now()))
            self.walked(things, newest.laying_now())
            self.assertEqual(newest.room_now(), room(stock, newest.laying_now()))
            self.assertEqual(row_room(row, growing.kept_now()), room(stock, row_laying(row, growing.kept_now())))
            for kept in [within_deep(row, 2)[1], least_sum(row, (3,) * many, 5)[1], within_reads(row, GREAT)[1]]:
                self.walked(things, row_laying(row, kept))

    def test_a_shelf(self):
        chance = random.Random(163)
        for many in (1, 5, 12):
            things = made_anew(chance, many)
            shelf = Shelf()
            for thing in things:
                shelf.put(thing)
            for _ in range(30):
                make, on = chance.randrange(many), chance.choice([None, *range(many)])
                try:
                    shelf.rest(make, on)
                except Loop:
                    pass
                self.walked(things, shelf.laying_now())
                self.assertEqual(shelf.fetch(make), (things[make], reads(shelf.stock_now(), shelf.laying_now())[make]))
            shelf.tidy()
            self.walked(things, shelf.laying_now())
            self.assertEqual([shelf.fetch(make)[0] for make in range(many)], things)


class Least(unittest.TestCase):
    """A laying told as least is least for its wish, and what is told with it shows it."""

    def test_of_stocks(self):
        chance = random.Random(164)
        for makes in range(5):
            for stock in some_stocks(chance, makes):
                layings = all_layings(stock)
                self.assertIs(is_stock(stock), True)
                number, laying, paper = least_room(stock)
                self.assertEqual(number, min(room_laid(stock, other) for other in layings))
                self.assertEqual(number, best_within(stock, None, None)[0])
                self.assertIn(laying, layings)
                self.assertIs(shows_least_room(stock, (number, laying, paper)), True)
                numbers = least_reads(stock)
                all_reads = [reads_laid(stock, other) for other in layings]
                self.assertEqual(numbers, tuple(map(min, zip(*all_reads))))
                self.assertIs(shows_reads(stock, numbers, soonest(stock)), True)
                most = max(numbers, default=0)
                self.assertIsNotNone(best_within(stock, None, most))
                self.assertIsNone(best_within(stock, None, most - 1) if makes else None)

    def test_of_things(self):
        chance = random.Random(165)
        for many in (0, 1, 3, 12):
            stock = stock_of(made_anew(chance, many) if many else [])
            self.assertIs(shows_least_room(stock, least_room(stock)), True)
            self.assertIs(shows_reads(stock, least_reads(stock), soonest(stock)), True)

    def test_of_rows(self):
        """A row's least room is its stock's, and the bounds and sums go by all kept."""
        chance = random.Random(166)
        for makes in range(1, 7):
            for row in some_rows(chance, makes):
                number = least_room(row_stock(row))[0]
                self.assertEqual(within_deep(row, makes)[0], number)
                self.assertEqual(number, min(sum(kept_sizes(row, kept)) for kept in all_kept(makes)))
                self.assertEqual(least_sum(row, (0,) * makes, 1)[0], number)
                self.assertEqual(min(pair[1] for pair in not_beaten(row)), number)
                self.assertEqual(deep_for(row, number)[1], number)
                self.assertEqual(reads_for(row, number)[1], number)
                self.assertIsNone(deep_for(row, number - 1))
                self.assertIsNone(reads_for(row, number - 1))
                # The least to read of the makes one by one, each asked for alone.
                least = least_reads(row_stock(row))
                for make in range(makes):
                    asks = tuple(int(other == make) for other in range(makes))
                    self.assertEqual(least_sum(row, asks, 0)[0], least[make])
                self.assertEqual(max(row_reads(row, reads_for(row, 10 ** 12)[2])), reads_for(row, 10 ** 12)[0])

    def test_of_rows_of_few_by_all_layings(self):
        chance = random.Random(167)
        for makes in range(1, 6):
            for row in some_rows(chance, makes):
                stock = row_stock(row)
                for most in range(makes + 1):
                    takes, kept = within_deep(row, most)
                    self.assertEqual(takes, best_within(stock, most, None)[0])
                    self.assertLessEqual(row_deep(row, kept), most)
                for most in sorted({read for kept in all_kept(makes) for read in row_reads(row, kept)}):
                    best = best_within(stock, None, most)
                    found = within_reads(row, most)
                    self.assertEqual(found and found[0], best and best[0])

    def test_of_thirty(self):
        chance = random.Random(168)
        for row in some_rows(chance, 30)[::3]:
            stock = row_stock(row)
            least = least_room(stock)
            self.assertIs(shows_least_room(stock, least), True)
            self.assertEqual(within_deep(row, 29)[0], least[0])
            self.assertIs(shows_reads(stock, least_reads(stock), soonest(stock)), True)
            asks = tuple(chance.randint(0, GREAT) for _ in range(30))
            rate = chance.randint(0, GREAT)
            self.assertIs(shows_sum(row, asks, rate, *least_sum(row, asks, rate), sum_table(row, asks, rate)), True)


class BetweenBoth(unittest.TestCase):
    """A laying between both takes no more room, and no more to read, than the told factors."""

    def test_factors(self):
        chance = random.Random(169)
        stocks = [stock for makes in (0, 1, 5, 12) for stock in even_stocks(chance, makes)]
        stocks += [hub_stock(12, top, below, 500) for top, below in [(2, 1), (3, 1), (7, 3)]]
        for stock in stocks:
            self.assertIs(is_even(stock), True)
            least, numbers, soon = least_room(stock), least_reads(stock), soonest(stock)
            for top, below in [(2, 1), (3, 1), (7, 3), (1000, 1), (1000, 999)]:
                laying = between(stock, top, below)
                self.assertIs(shows_between(stock, top, below, (laying, least, numbers, soon)), True)
                self.assertLessEqual((top - below) * room(stock, laying), (top + below) * least[0])
                for own, number in zip(reads(stock, laying), numbers):
                    self.assertLessEqual(below * own, top * number)

    def test_of_things_alike_both_ways(self):
        things = [(1, 2, 3, 4, 5), (6, 2, 3, 4, 5), (1, 2, 3, 4, 7), (8, 2, 3, 4, 9)]
        stock = stock_of(things)
        self.assertIs(is_even(stock), True)
        for top, below in [(2, 1), (5, 4), (9, 1)]:
            shown = (between(stock, top, below), least_room(stock), least_reads(stock), soonest(stock))
            self.assertIs(shows_between(stock, top, below, shown), True)


class RowsThatGrow(unittest.TestCase):
    """At most twice the least room, none laid anew; or the newest make whole, at most one laid anew at a time."""

    def test_growing(self):
        chance = random.Random(170)
        for makes in (1, 2, 10, 30, 60):
            for row in some_rows(chance, makes):
                growing = Growing()
                ahead = ()
                for make in range(makes):
                    growing.grown(row[0][make], row[1][make - 1] if make else None)
                    kept = growing.kept_now()
                    self.assertEqual(kept[:len(ahead)], ahead)
                    self.assertLessEqual(set(kept) - set(ahead), {make})
                    ahead = kept
                    if make % 7 == 0 or make == makes - 1:
                        now = growing.row_now()
                        self.assertLessEqual(row_room(now, kept), 2 * within_deep(now, make)[0])

    def test_newest(self):
        chance = random.Random(171)
        for most in (0, 1, 6, 60):
            newest = Newest(most)
            ahead = ()
            for make in range(60):
                anew = newest.grown(chance.randint(1, GREAT), chance.randint(1, GREAT))
                laying = newest.laying_now()
                self.assertIsNone(laying[-1])
                self.assertEqual(tuple(at for at in range(make) if laying[at] != ahead[at]), anew)
                self.assertLessEqual(len(anew), 1)
                ahead = laying


class Forgotten(unittest.TestCase):
    """A make forgotten leaves all others' things as they were."""

    def test_each_of_a_shelf(self):
        chance = random.Random(172)
        for many in (1, 2, 5, 12):
            things = dict(enumerate(made_anew(chance, many)))
            shelf = Shelf()
            for make in range(many):
                shelf.put(things[make])
            for _ in range(3 * many):
                make, on = chance.randrange(many), chance.randrange(many)
                if make not in shelf.way_now(on):
                    shelf.rest(make, on)
            for make in chance.sample(range(many), many):
                shelf.forget(make)
                del things[make]
                self.assertEqual({other: shelf.fetch(other)[0] for other in shelf.makes_now()}, things)
                self.assertRaises(NoMake, shelf.fetch, make)

    def test_on_a_sheet(self):
        rows = ["put 1 2 3 4 5 6", "put 1 2 3 4 5 6 7", "put 0 1 2 3 4 5 6 7", "rest 1 0", "rest 2 1", "forget 1"]
        self.assertEqual(run("\n".join(rows + ["fetch 0", "fetch 2", "fetch 1"]))[-3:],
                         ["1 2 3 4 5 6 : 7", "0 1 2 3 4 5 6 7 : 14", "no make"])


def questions():
    """Each function with what is handed in to it."""
    a, b, c = (1, 2, 3, 4, 5), (1, 2, 3, 9, 4, 5), (1, 2, 3, 9, 4, 5, 8)
    change, other = least_change(a, b), least_change(b, c)
    stock = ((6, 7, 8, 9), ((0, 1, 4), (0, 2, 8), (1, 0, 5), (1, 2, 5), (2, 0, 5), (2, 1, 3), (3, 0, 2)))
    laying = (1, None, 1, None)
    even = even_stock((20, 21, 22, 40), {(0, 1): 4, (1, 2): 9, (2, 3): 3, (0, 3): 30})
    row, kept, asks = ((20, 22, 21, 25, 24), (3, 4, 6, 5)), (0, 3), (1, 0, 2, 9, 1)
    shown = (between(even, 5, 4), least_room(even), least_reads(even), soonest(even))
    sheet = "put 1 2 3\nput 1 2 3 4\nrest 1 0\nfetch 1\n\ntidy\nundo\nmakes\nrest 0 1\nfetch 7\nchange 0 1"
    summed = (row, asks, 2, *least_sum(row, asks, 2), sum_table(row, asks, 2))
    return [
        (is_change, a, change), (is_change, a, [("keep", 0, 9)]), (changed, a, change), (whole_size, a),
        (change_size, change), (least_change, a, c), (joined, change, other), (is_stock, stock), (is_stock, [stock]),
        (is_laying, stock, laying), (is_laying, stock, list(laying)), (stock_of, [a, b, c]), (stock_of, []),
        (room, stock, laying), (way, laying, 2), (deep, laying, 2), (reads, stock, laying), (resting, laying, 1),
        (resting, laying, 3), (all_layings, stock), (all_layings, ((), ())), (best_within, stock, 1, 14),
        (best_within, stock, None, 2), (least_room, stock), (least_room, ((), ())),
        (shows_least_room, stock, least_room(stock)), (shows_least_room, stock, [1, [laying], [[()]]]),
        (least_reads, stock), (soonest, stock), (is_even, even), (is_even, [even]), (between, even, 5, 4),
        (between, even, 3, 1), (shows_reads, stock, least_reads(stock), soonest(stock)),
        (shows_reads, stock, [1, [2]], [None]), (shows_between, even, 5, 4, shown),
        (shows_between, even, 5, 4, list(shown)), (row_stock, row), (row_laying, row, kept), (row_room, row, kept),
        (row_reads, row, kept), (row_deep, row, kept), (within_deep, row, 1), (within_reads, row, 30),
        (within_reads, row, 3), (deep_for, row, 60), (deep_for, row, 1), (reads_for, row, 60), (reads_for, row, 1),
        (not_beaten, row), (least_sum, row, asks, 2), (sum_table, row, asks, 2), (shows_sum, *summed),
        (shows_sum, row, asks, 2, [1], [[0]], [[()], 2]), (run, sheet), (run, ""),
    ]


class EachQuestion(unittest.TestCase):
    """What [2] promises of each function."""

    def test_each_function_is_asked(self):
        asked_of = {ask.__name__ for ask, *_ in questions()}
        named = {name for file, names in INTERFACE.items() for name in names if file != "errors"}
        self.assertEqual(asked_of, named - {"Growing", "Newest", "Shelf"})

    def test_handed_in_told_and_told_again(self):
        for ask, *given in questions():
            told(self, ask, *given)

    def test_the_same_with_all_others_between(self):
        asked_of = questions()
        first = [copy.deepcopy(ask(*given)) for ask, *given in asked_of]
        self.assertEqual([ask(*given) for ask, *given in asked_of], first)
        self.assertEqual([ask(*given) for ask, *given in reversed(asked_of)], first[::-1])
        chance = random.Random(173)
        for _ in range(5):
            order = chance.sample(range(len(asked_of)), len(asked_of))
            for at in order:
                ask, *given = asked_of[at]
                self.assertEqual(repr(ask(*given)), repr(first[at]))

    def test_no_two_lists_told_are_one(self):
        answers = [ask(*given) for _ in range(3) for ask, *given in questions()]
        lists = lists_in(answers)
        self.assertEqual(len({id(one) for one in lists}), len(lists))
        self.assertGreater(len(lists), 25)

    def test_nothing_told_is_what_was_handed_in(self):
        for ask, *given in questions():
            handed = {id(one) for one in lists_in(given)}
            self.assertTrue(all(id(one) not in handed for one in lists_in(ask(*given))))

    def test_changed_lists_change_nothing(self):
        kept = [copy.deepcopy(ask(*given)) for ask, *given in questions()]
        for ask, *given in questions():
            for one in lists_in(ask(*given)):
                one.insert(0, None)
                one.extend([1, 2, 3])
        self.assertEqual([ask(*given) for ask, *given in questions()], kept)

    def test_what_is_handed_in_may_change_later(self):
        things = [(1, 2), (1, 2, 3)]
        stock = stock_of(things)
        things[0] = (9,) * 20
        things.append(())
        self.assertEqual(stock, stock_of([(1, 2), (1, 2, 3)]))
        told_of = least_room(stock)
        shown = (told_of[0], told_of[1], list(told_of[2]))
        self.assertIs(shows_least_room(stock, shown), True)
        shown[2].clear()
        self.assertIs(shows_least_room(stock, shown), False)
        self.assertIs(shows_least_room(stock, told_of), True)

    def test_a_tuple_in_the_place_of_a_list(self):
        things = [(1, 2), (1, 2, 3), ()]
        self.assertEqual(stock_of(tuple(things)), stock_of(things))

    def test_truths_are_true_or_false(self):
        names = {"is_change", "is_stock", "is_laying", "is_even"}
        for ask, *given in questions():
            if ask.__name__ in names or ask.__name__.startswith("shows_"):
                self.assertIs(type(ask(*given)), bool, ask)

    def test_told_handed_in_again(self):
        chance = random.Random(174)
        things = made_anew(chance, 5)
        stock = stock_of(things)
        self.assertIs(is_stock(stock), True)
        for laying in all_layings(stock)[::97]:
            self.assertIs(is_laying(stock, laying), True)
            self.assertEqual(room(stock, laying), room_laid(stock, laying))
            for make in resting(laying, 0):
                self.assertIn(0, way(laying, make))
        self.assertIs(is_laying(stock, best_within(stock, 2, None)[1]), True)
        row = some_row(chance, 30, 50, 9)
        told_of = row_stock(row)
        self.assertIs(shows_least_room(told_of, least_room(told_of)), True)
        for deepest, takes in not_beaten(row):
            self.assertEqual(within_deep(row, deepest)[0], takes)
            self.assertEqual(deep_for(row, takes)[:2], (deepest, takes))
            self.assertEqual(row_deep(row, within_deep(row, deepest)[1]), deepest)
        number, takes, kept = reads_for(row, 400)
        self.assertEqual(within_reads(row, number), (takes, kept))
        self.assertEqual(max(row_reads(row, kept)), number)


class EachMethod(unittest.TestCase):
    """What [2] promises of each method: what it tells is the asker's own, and asked again it tells the same."""

    def told_now(self, made, asks):
        """What an object tells of itself, twice the same, with the lists of the first time changed between."""
        first = [getattr(made, name)(*given) for name, *given in asks]
        kept = copy.deepcopy(first)
        for one in lists_in(first):
            one.append("more")
            one.reverse()
        again = [getattr(made, name)(*given) for name, *given in asks]
        self.assertEqual(repr(again), repr(kept))
        lists = lists_in(first) + lists_in(again)
        self.assertEqual(len({id(one) for one in lists}), len(lists))
        return again

    def test_growing(self):
        growing, other = Growing(), Growing()
        told_of = []
        for make in range(20):
            growing.grown(9, 4)
            other.grown(3, 2)
            told_of.append(self.told_now(growing, [("row_now",), ("kept_now",)]))
        for make, (row, kept) in enumerate(told_of):
            # Nothing done later changes it.
            self.assertEqual(row, ((9,) * (make + 1), (4,) * make))
            self.assertEqual(kept, tuple(range(0, make + 1, 3)))
            self.assertIs(type(row_room(row, kept)), int)

    def test_newest(self):
        newest, other = Newest(2), Newest(0)
        told_of = []
        for make in range(20):
            newest.grown(9, 4)
            other.grown(3, 2)
            told_of.append(self.told_now(newest, [("laying_now",), ("room_now",)]))
        for make, (laying, takes) in enumerate(told_of):
            wholes = 1 + make // 3
            self.assertEqual((len(laying), laying.count(None)), (make + 1, wholes))
            self.assertEqual(takes, 9 * wholes + 4 * (make + 1 - wholes))

    def test_shelf(self):
        chance = random.Random(175)
        shelf, other = Shelf(), Shelf()
        told_of = []
        for thing in made_anew(chance, 12):
            make = shelf.put(thing)
            other.put(thing[::-1])
            shelf.rest(make, make - 1 if make % 4 else None)
            other.tidy()
            asks = [("makes_now",), ("on_now", make), ("way_now", make), ("room_now",), ("spent_now",), ("stock_now",),
                    ("laying_now",)]
            told_of.append(self.told_now(shelf, asks))
            self.assertEqual(shelf.fetch(make)[0], thing)
        kept = copy.deepcopy(told_of)
        shelf.tidy()
        for make in range(12):
            shelf.forget(make)
        self.assertEqual(told_of, kept)
        for make, (makes, on, found, takes, spent, stock, laying) in enumerate(told_of):
            self.assertEqual((makes, found[-1]), (list(range(make + 1)), make))
            self.assertEqual(on, make - 1 if make % 4 else None)
            self.assertEqual(takes, room(stock, laying))

    def test_things_handed_in_stay_as_they_were(self):
        things = made_anew(random.Random(176), 6)
        before = copy.deepcopy(things)
        shelf = Shelf()
        for thing in things:
            shelf.put(thing)
        shelf.rest(1, 0)
        shelf.tidy()
        shelf.forget(3)
        shelf.undo()
        for make in shelf.makes_now():
            shelf.fetch(make)
        self.assertEqual(things, before)

    def test_refusals_stand_straight_under_one(self):
        shelf = Shelf()
        shelf.put((1,))
        for kind, ask in [(NoMake, lambda: shelf.fetch(1)), (Loop, lambda: shelf.rest(0, 0)),
                          (NoMake, lambda: Growing().row_now())]:
            with self.assertRaises(KeepError) as caught:
                ask()
            self.assertIs(type(caught.exception), kind)
            self.assertEqual(kind.__bases__, (KeepError,))
            self.assertIsInstance(caught.exception, ValueError)


if __name__ == "__main__":
    unittest.main()
