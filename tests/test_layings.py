"""layings.py: promise [4], and what [1] and [2] say of it."""

import itertools
import random
import unittest

from keepwhole.changes import change_size, changed, least_change, whole_size
from keepwhole.layings import deep, is_laying, is_stock, reads, resting, room, stock_of, way
from tests.helper import asked, nested, never_right, spoiled

# Three makes; no change from 2 to 0, nor from 1 to 2.
STOCK = ((10, 20, 30), ((0, 1, 4), (0, 2, 5), (1, 0, 6), (2, 1, 7)))

# Nine makes: 3 and 0 whole; 1, 5 on 3; 8, 2 on 5; 7 on 2; 4 on 0; 6 on 4.
BRANCHING = (None, 3, 5, None, 0, 3, 4, 2, 5)
BRANCHING_STOCK = (
    (100, 101, 102, 103, 104, 105, 106, 107, 108),
    ((0, 4, 1), (1, 3, 900), (2, 7, 2), (3, 1, 4), (3, 5, 8), (4, 6, 16), (5, 2, 32), (5, 3, 900), (5, 8, 64)),
)


def full_stock(makes):
    """A stock with a change from each make to each other one, all sizes unlike."""
    wholes = tuple(10 ** 6 + 7 * make for make in range(makes))
    return (wholes, tuple((a, b, 1 + 100 * a + b) for a in range(makes) for b in range(makes) if a != b))


def is_laying_told(stock, laying):
    """The same as is_laying, for a tuple of None and numbers, by taking whole makes off one after another."""
    there = {(a, b) for a, b, _ in stock[1]}
    if any(on is not None and (on, make) not in there for make, on in enumerate(laying)):
        return False
    come_to = set()
    for _ in laying:
        come_to |= {make for make, on in enumerate(laying) if on is None or on in come_to}
    return len(come_to) == len(laying)


class IsStock(unittest.TestCase):
    def told(self, thing):
        return asked(self, is_stock, thing)

    def test_true_of_stocks(self):
        for stock in [
            ((), ()), ((1,), ()), ((1, 1), ()), ((10 ** 9,), ()), ((10 ** 30, 1), ((0, 1, 10 ** 30),)),
            ((1, 1), ((0, 1, 1),)), ((1, 1), ((1, 0, 1),)), ((1, 1), ((0, 1, 1), (1, 0, 1))),
            ((5, 5, 5), ((0, 2, 9), (1, 0, 3), (2, 0, 3), (2, 1, 1))), STOCK, BRANCHING_STOCK,
        ]:
            self.assertIs(self.told(stock), True, stock)

    def test_true_of_forty_makes(self):
        self.assertIs(self.told(full_stock(40)), True)
        self.assertIs(self.told(((1,) * 40, ())), True)
        self.assertIs(self.told(((1,) * 40, ((39, 38, 1),))), True)
        self.assertIs(self.told(((1,) * 40, ((39, 40, 1),))), False)

    def test_sizes_begin_at_one(self):
        for size in (0, -1, -10 ** 9, True, False, None, "1", (1,), [1]):
            for stock in [
                ((size,), ()), ((1, size), ()), ((size, 1), ((0, 1, 1),)), ((1, 1), ((0, 1, size),)),
                ((1, 1), ((0, 1, 1), (1, 0, size))),
            ]:
                self.assertIs(self.told(stock), False, stock)

    def test_changes_rise(self):
        for changes in [
            ((1, 0, 1), (0, 1, 1)), ((0, 2, 1), (0, 1, 1)), ((0, 2, 1), (0, 1, 5)), ((0, 1, 1), (2, 0, 1), (1, 2, 1)),
            ((0, 2, 1), (1, 0, 1), (0, 1, 1)),
        ]:
            self.assertIs(self.told(((9, 9, 9), changes)), False, changes)
            self.assertIs(self.told(((9, 9, 9), tuple(sorted(changes)))), True)

    def test_no_two_alike_in_both_makes(self):
        for changes in [
            ((0, 1, 1), (0, 1, 1)), ((0, 1, 1), (0, 1, 2)), ((0, 1, 2), (0, 1, 1)), ((0, 1, 1), (1, 0, 5), (1, 0, 6)),
        ]:
            self.assertIs(self.told(((9, 9, 9), changes)), False, changes)

    def test_makes_are_there_and_unlike(self):
        for a, b in [
            (0, 0), (2, 2), (0, 3), (3, 0), (-1, 0), (0, -1), (0, -3), (10 ** 30, 0), (True, 0), (0, True), (False, 1),
            (1, False), (None, 1), (0, None), ("0", 1), (0, "1"), ((0,), 1), ([0], 1), (0, [1]),
        ]:
            self.assertIs(self.told(((9, 9, 9), ((a, b, 1),))), False, (a, b))
        self.assertIs(self.told(((), ((0, 1, 1),))), False)
        self.assertIs(self.told(((1,), ((0, 0, 1),))), False)

    def test_changes_have_three_parts(self):
        for change in [(), (0,), (0, 1), (0, 1, 1, 1), (0, 1, 1, None), [0, 1, 1], "011", None, 1, (0, (1, 1))]:
            self.assertIs(self.told(((9, 9), (change,))), False, change)

    def test_lists_parts_left_out_and_one_more(self):
        for thing in [
            [(), ()], ([], ()), ((), []), [[], []], ([1], ()), ((1, 1), [(0, 1, 1)]), ((1, 1), ([0, 1, 1],)), (), ((),),
            ((1,),), ((1,), (), ()), ((1,), (), None), (1, ()), ((1,), 0), ((1,), None), (None, ()), ("", ""), ((), ""),
            ("", ()), ("ab", ()), ((1, 1), (0, 1, 1)), (1, 1), ((), (), (), ()),
        ]:
            self.assertIs(self.told(thing), False, thing)

    def test_false_for_anything_else(self):
        for thing in never_right() + [None, 0, 1, "stock", (), (1, 2)]:
            self.assertIs(self.told(thing), False, thing)
        for thing in spoiled(((3, 4), ((0, 1, 2), (1, 0, 2)))):
            self.assertIs(self.told(thing), False, thing)
        for kinds in [(list,), (tuple,), (list, tuple), (tuple, list)]:
            self.assertIs(self.told(nested(((), ()), 18, kinds)), False)


class IsLaying(unittest.TestCase):
    def told(self, stock, thing):
        before = repr(stock)
        told = asked(self, lambda asked_of: is_laying(stock, asked_of), thing)
        self.assertEqual(repr(stock), before)
        return told

    def test_true_of_layings(self):
        for laying in [
            (None, None, None), (None, 0, None), (None, None, 0), (None, 0, 0), (1, None, None), (1, None, 0), (None, 2, None),
            (None, 2, 0), (1, None, None),
        ]:
            self.assertIs(self.told(STOCK, laying), True, laying)
        self.assertIs(self.told(BRANCHING_STOCK, BRANCHING), True)

    def test_false_without_that_change(self):
        # From 2 to 0 and from 1 to 2 there is none, though the other way there is.
        for laying in [(2, None, None), (None, None, 1), (2, 0, None), (None, 0, 1)]:
            self.assertIs(self.told(STOCK, laying), False, laying)
        self.assertIs(self.told(((1, 1), ()), (None, 0)), False)

    def test_false_in_a_ring(self):
        for laying in [(1, 0, None), (1, 0, 0), (1, 2, 0)]:
            self.assertIs(self.told(STOCK, laying), False, laying)
        full = full_stock(5)
        for laying in [(1, 2, 3, 4, 0), (None, 2, 1, 1, 3), (None, 0, 4, 2, 3), (4, None, 1, 0, 3), (None, 2, 3, 4, 2)]:
            self.assertIs(self.told(full, laying), False, laying)

    def test_false_on_itself_or_on_none_there(self):
        full = full_stock(3)
        for on in (0, 3, 4, -1, -2, -3, 10 ** 30, True, False, "1", "", (1,), [1], [], ()):
            self.assertIs(self.told(full, (on, None, None)), False, on)
        self.assertIs(self.told(full, (None, None, 2)), False)
        self.assertIs(self.told(full, (True, None, None)), False)
        self.assertIs(self.told(full, (None, False, None)), False)
        self.assertIs(self.told(full, (1, None, True)), False)

    def test_false_of_another_length_or_kind(self):
        for thing in [
            (), (None,), (None, None), (None, None, None, None), (None, 0), (None, 0, 0, 0), [None, None, None], [None, 0, 0],
            None, 0, "abc", (None, [], None), (None, (0,), None), ((None, None, None),),
        ]:
            self.assertIs(self.told(STOCK, thing), False, thing)

    def test_of_a_stock_of_none(self):
        self.assertIs(self.told(((), ()), ()), True)
        for thing in [(None,), [], "", None, 0, False, ((),)]:
            self.assertIs(self.told(((), ()), thing), False, thing)

    def test_false_for_anything_else(self):
        for thing in never_right() + [None, 0, 1, "laying"]:
            self.assertIs(self.told(STOCK, thing), False, thing)
        for part in never_right():
            for laying in [(part, None, None), (None, 0, part), (None, part, 0), (part, part, part)]:
                self.assertIs(self.told(STOCK, laying), False, laying)
        for kinds in [(list,), (tuple,), (list, tuple), (tuple, list)]:
            self.assertIs(self.told(STOCK, nested((None, 0, 0), 18, kinds)), False)

    def test_all_tuples_of_small_stocks(self):
        chance = random.Random(6)
        for makes in (1, 2, 3, 4):
            wholes = (5,) * makes
            for _ in range(4):
                pairs = [(a, b) for a in range(makes) for b in range(makes) if a != b and chance.randrange(3)]
                stock = (wholes, tuple((a, b, 1) for a, b in pairs))
                for laying in itertools.product([None] + list(range(-1, makes + 1)), repeat=makes):
                    self.assertIs(is_laying(stock, laying), is_laying_told(stock, laying), (stock, laying))

    def test_thirty_makes(self):
        full = full_stock(30)
        row = (None,) + tuple(range(29))
        self.assertIs(self.told(full, row), True)
        self.assertIs(self.told(full, tuple(range(1, 30)) + (None,)), True)
        self.assertIs(self.told(full, (None,) * 30), True)
        self.assertIs(self.told(full, (None,) + (0,) * 29), True)
        self.assertIs(self.told(full, (29,) + tuple(range(29))), False)
        self.assertIs(self.told(full, (None, 29) + tuple(range(1, 29))), False)
        self.assertIs(self.told(full, row[:29] + (29,)), False)
        self.assertIs(self.told(full, row + (None,)), False)

    def test_the_same_again(self):
        questions = [(STOCK, (None, 0, 0)), (full_stock(3), (1, 2, None)), (STOCK, (1, 2, None)), (STOCK, (1, 0, None))]
        first = [is_laying(*question) for question in questions]
        self.assertEqual(first, [True, True, True, False])
        self.assertEqual([is_laying(*question) for question in questions[::-1]], first[::-1])


class StockOf(unittest.TestCase):
    def test_known(self):
        for things, stock in [
            ([], ((), ())), ([()], ((1,), ())), ([(1, 2, 3)], ((4,), ())),
            ([(1, 2, 3), (1, 2, 3)], ((4, 4), ((0, 1, 3), (1, 0, 3)))), ([(), ()], ((1, 1), ((0, 1, 1), (1, 0, 1)))),
            ([(), (4, 4)], ((1, 3), ((0, 1, 4), (1, 0, 1)))),
            ([(1, 2, 3, 4), (1, 2, 3, 4, 9), (8,)], (
                (5, 6, 2), ((0, 1, 5), (0, 2, 3), (1, 0, 3), (1, 2, 3), (2, 0, 6), (2, 1, 7)))),
        ]:
            self.assertEqual(stock_of(things), stock)
            self.assertEqual(stock_of(tuple(things)), stock)
            self.assertIs(is_stock(stock_of(things)), True)

    def test_by_the_sizes_of_least_changes(self):
        chance = random.Random(7)
        for makes, cells in [(3, 2), (5, 3), (12, 4)]:
            things = [tuple(chance.randrange(cells) for _ in range(chance.randrange(25))) for _ in range(makes)]
            wholes, changes = stock_of(things)
            self.assertEqual(wholes, tuple(whole_size(thing) for thing in things))
            pairs = list(itertools.permutations(range(makes), 2))
            self.assertEqual(changes, tuple((a, b, change_size(least_change(things[a], things[b]))) for a, b in pairs))

    def test_the_list_stays_and_is_not_kept(self):
        things = [(1, 2, 3, 4), (1, 2, 3, 4, 5), ()]
        told = stock_of(things)
        self.assertEqual(things, [(1, 2, 3, 4), (1, 2, 3, 4, 5), ()])
        copy = (tuple(list(told[0])), tuple(list(told[1])))
        things[0] = (9, 9)
        things.append((1,))
        self.assertEqual(told, copy)
        self.assertNotEqual(stock_of(things), told)
        self.assertEqual(stock_of([(1, 2, 3, 4), (1, 2, 3, 4, 5), ()]), told)

    def test_large_things_told(self):
        small = tuple(range(24))
        large = changed(small, (("keep", 0, 24),) * 30)
        self.assertEqual(stock_of([small, large]), ((25, 721), ((0, 1, 61), (1, 0, 3))))


class Layings(unittest.TestCase):
    def numbers(self, *told):
        for number in told:
            self.assertIs(type(number), int)

    def test_no_makes(self):
        self.assertEqual(room(((), ()), ()), 0)
        self.assertEqual(reads(((), ()), ()), ())

    def test_all_whole(self):
        laying = (None, None, None)
        self.assertEqual(room(STOCK, laying), 60)
        self.assertEqual(reads(STOCK, laying), (10, 20, 30))
        for make in range(3):
            self.assertEqual(way(laying, make), (make,))
            self.assertEqual(deep(laying, make), 0)
            self.assertEqual(resting(laying, make), [])
        self.numbers(room(STOCK, laying), deep(laying, 0), reads(STOCK, laying)[0])

    def test_a_change_by_its_own_direction(self):
        self.assertEqual(room(STOCK, (None, 0, 0)), 19)
        self.assertEqual(reads(STOCK, (None, 0, 0)), (10, 14, 15))
        self.assertEqual(room(STOCK, (1, None, 0)), 31)
        self.assertEqual(reads(STOCK, (1, None, 0)), (26, 20, 31))
        self.assertEqual(room(STOCK, (1, 2, None)), 43)
        self.assertEqual(reads(STOCK, (1, 2, None)), (43, 37, 30))

    def test_branching(self):
        self.assertEqual(room(BRANCHING_STOCK, BRANCHING), 100 + 103 + 1 + 2 + 4 + 8 + 16 + 32 + 64)
        self.assertEqual(
            reads(BRANCHING_STOCK, BRANCHING),
            (100, 107, 143, 103, 101, 111, 117, 145, 175))
        ways = [(0,), (3, 1), (3, 5, 2), (3,), (0, 4), (3, 5), (0, 4, 6), (3, 5, 2, 7), (3, 5, 8)]
        self.assertEqual([way(BRANCHING, make) for make in range(9)], ways)
        self.assertEqual([deep(BRANCHING, make) for make in range(9)], [0, 1, 2, 0, 1, 1, 2, 3, 2])
        over = [[4, 6], [], [7], [1, 2, 5, 7, 8], [6], [2, 7, 8], [], [], []]
        self.assertEqual([resting(BRANCHING, make) for make in range(9)], over)

    def test_one_row_of_thirty(self):
        row = (None,) + tuple(range(29))
        full = full_stock(30)
        steps = [1 + 100 * (make - 1) + make for make in range(1, 30)]
        self.assertEqual(room(full, row), 10 ** 6 + sum(steps))
        self.assertEqual(reads(full, row), tuple(10 ** 6 + sum(steps[:make]) for make in range(30)))
        for make in range(30):
            self.assertEqual(way(row, make), tuple(range(make + 1)))
            self.assertEqual(deep(row, make), make)
            self.assertEqual(resting(row, make), list(range(make + 1, 30)))

    def test_one_row_of_thirty_the_other_way(self):
        row = tuple(range(1, 30)) + (None,)
        full = full_stock(30)
        self.assertEqual(room(full, row), 10 ** 6 + 203 + sum(1 + 100 * (make + 1) + make for make in range(29)))
        self.assertEqual(reads(full, row)[29], 10 ** 6 + 203)
        self.assertEqual(reads(full, row)[0], room(full, row))
        for make in range(30):
            self.assertEqual(way(row, make), tuple(range(29, make - 1, -1)))
            self.assertEqual(deep(row, make), 29 - make)
            self.assertEqual(resting(row, make), list(range(make)))

    def test_all_on_one(self):
        laying = (None,) + (0,) * 29
        full = full_stock(30)
        self.assertEqual(room(full, laying), 10 ** 6 + sum(1 + make for make in range(1, 30)))
        self.assertEqual(reads(full, laying), (10 ** 6,) + tuple(10 ** 6 + 1 + make for make in range(1, 30)))
        self.assertEqual(resting(laying, 0), list(range(1, 30)))
        self.assertEqual(resting(laying, 29), [])
        self.assertEqual({deep(laying, make) for make in range(1, 30)}, {1})

    def test_great_sizes(self):
        great = 10 ** 9
        stock = ((great,) * 12, tuple((make, make + 1, great) for make in range(11)))
        row = (None,) + tuple(range(11))
        self.assertEqual(room(stock, row), 12 * great)
        self.assertEqual(reads(stock, row), tuple((make + 1) * great for make in range(12)))

    def test_kinds_told(self):
        self.assertIs(type(way(BRANCHING, 7)), tuple)
        self.assertIs(type(reads(BRANCHING_STOCK, BRANCHING)), tuple)
        self.assertIs(type(resting(BRANCHING, 3)), list)
        self.numbers(room(BRANCHING_STOCK, BRANCHING), deep(BRANCHING, 7), deep(BRANCHING, 1))

    def test_some(self):
        chance = random.Random(8)
        for _ in range(100):
            makes = chance.randint(1, 12)
            order = chance.sample(range(makes), makes)
            laying = [None] * makes
            for at in range(1, makes):
                laying[order[at]] = chance.choice([None] + [order[chance.randrange(at)] for _ in range(5)])
            laying = tuple(laying)
            stock = full_stock(makes)
            sizes = {(a, b): size for a, b, size in stock[1]}
            takes = [stock[0][make] if on is None else sizes[on, make] for make, on in enumerate(laying)]
            self.assertEqual(room(stock, laying), sum(takes))
            for make in range(makes):
                found = way(laying, make)
                self.assertEqual((found[-1], laying[found[0]]), (make, None))
                self.assertEqual([laying[one] for one in found[1:]], list(found[:-1]))
                self.assertEqual(deep(laying, make), len(found) - 1)
                self.assertEqual(reads(stock, laying)[make], sum(takes[one] for one in found))
                others = [other for other in range(makes) if make in way(laying, other) and other != make]
                self.assertEqual(resting(laying, make), others)


class AskersOwn(unittest.TestCase):
    def test_a_told_list_changed(self):
        for make, told in [(3, [1, 2, 5, 7, 8]), (5, [2, 7, 8]), (1, []), (8, [])]:
            first = resting(BRANCHING, make)
            second = resting(BRANCHING, make)
            self.assertIsNot(first, second)
            first.append(99)
            first.reverse()
            self.assertEqual(second, told)
            self.assertEqual(resting(BRANCHING, make), told)

    def test_lists_told_are_never_the_same(self):
        lists = [resting(BRANCHING, make) for make in range(9)] + [resting((None,), 0), resting((None,), 0)]
        self.assertEqual(len({id(told) for told in lists}), len(lists))

    def test_the_same_again_with_others_between(self):
        other = (None, 0, 0, 0, 0, 0, 0, 0, 0)
        first = [(way(BRANCHING, make), deep(BRANCHING, make), resting(BRANCHING, make)) for make in range(9)]
        for make in range(9):
            self.assertEqual(way(other, make), (0, make) if make else (0,))
            self.assertEqual(deep(other, make), 1 if make else 0)
            self.assertEqual(resting(other, make), [] if make else list(range(1, 9)))
        again = [(way(BRANCHING, make), deep(BRANCHING, make), resting(BRANCHING, make)) for make in range(9)]
        self.assertEqual(again, first)
        dear = (tuple(size + 1 for size in STOCK[0]), tuple((a, b, size + 1) for a, b, size in STOCK[1]))
        told = []
        for stock in (STOCK, dear, STOCK, dear):
            told.append((room(stock, (None, 0, 0)), reads(stock, (None, 0, 0))))
        self.assertEqual(told, [(19, (10, 14, 15)), (22, (11, 16, 17))] * 2)


class ReadByWays(unittest.TestCase):
    """Promise [1]: each make is come to by its way, and what is read by it is the thing itself."""

    def test_each_make_is_read(self):
        chance = random.Random(9)
        for _ in range(20):
            makes = chance.randint(1, 8)
            things = [tuple(chance.randrange(3) for _ in range(chance.randrange(13))) for _ in range(makes)]
            stock = stock_of(things)
            laying = (None,) + tuple(chance.choice([None] + list(range(make))) for make in range(1, makes))
            self.assertIs(is_laying(stock, laying), True)
            for make in range(makes):
                found = way(laying, make)
                thing = things[found[0]]
                read = whole_size(thing)
                for ahead, behind in zip(found, found[1:]):
                    change = least_change(things[ahead], things[behind])
                    thing = changed(thing, change)
                    read += change_size(change)
                self.assertEqual(thing, things[make])
                self.assertEqual(reads(stock, laying)[make], read)


if __name__ == "__main__":
    unittest.main()
