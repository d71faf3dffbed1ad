"""pricecheck.py: promise [6], and what [1] and [2] say of it."""

import copy
import itertools
import random
import unittest

from keepwhole.leastroom import least_room
from keepwhole.pricecheck import shows_least_room
from tests.helper import (
    asked, is_least_shown, is_paper, nested, never_right, part_at, places, room_laid, some_stock, some_stocks, spoiled,
    tried_layings, with_part, with_rings)

# Least entered at 1, by 58 + 4 + 3 + 5.
STOCK = ((50, 58, 55, 90), ((0, 1, 12), (1, 2, 4), (2, 0, 3), (2, 3, 5)))
RIGHT = (70, (2, None, 1, 2), [((0,), 3), ((1,), 12), ((2,), 4), ((3,), 5), ((0, 1, 2), 46)])


def sets_of(makes):
    """All rising tuples of one make or more."""
    return [some for many in range(1, makes + 1) for some in itertools.combinations(range(makes), many)]


def papers_of(makes, most):
    """All papers with prices up to the most, of so many makes, right for a stock or not."""
    for prices in itertools.product(range(most + 1), repeat=len(sets_of(makes))):
        yield [pair for pair in zip(sets_of(makes), prices) if pair[1]]


class ShowsLeastRoom(unittest.TestCase):
    def told(self, stock, thing):
        before = repr(stock)
        told = asked(self, lambda asked_of: shows_least_room(stock, asked_of), thing)
        self.assertEqual(repr(stock), before)
        return told

    def right(self, stock, thing):
        self.assertIs(self.told(stock, thing), True, (stock, thing))

    def wrong(self, stock, thing):
        self.assertIs(self.told(stock, thing), False, (stock, thing))

    def test_what_least_room_tells(self):
        chance = random.Random(40)
        for makes in range(13):
            for stock in some_stocks(chance, makes):
                self.right(stock, least_room(stock))
            if makes > 1:
                stock = with_rings(some_stock(chance, makes, 3, 20, 90), [tuple(range(makes))], 1)
                self.right(stock, least_room(stock))

    def test_known(self):
        self.right(STOCK, RIGHT)
        self.right(((), ()), (0, (), []))
        self.right(((1,), ()), (1, (None,), [((0,), 1)]))
        self.right(((5, 9), ()), (14, (None, None), [((0,), 5), ((1,), 9)]))
        self.right(((5, 9), ((0, 1, 2),)), (7, (None, 0), [((0,), 5), ((1,), 2)]))
        self.right(((5, 9), ((0, 1, 2), (1, 0, 3))), (7, (None, 0), [((0,), 3), ((1,), 2), ((0, 1), 2)]))

    def test_any_order_of_the_paper(self):
        number, laying, paper = RIGHT
        for order in itertools.permutations(paper):
            self.assertIs(shows_least_room(STOCK, (number, laying, list(order))), True)

    def test_any_laying(self):
        pairs = list(itertools.permutations(range(3), 2))
        alike = ((5, 5, 5), tuple((a, b, 2) for a, b in pairs))
        paper = [((0,), 2), ((1,), 2), ((2,), 2), ((0, 1, 2), 3)]
        fitting = [laying for laying in tried_layings(alike) if laying.count(None) == 1]
        self.assertEqual(len(fitting), 9)
        for laying in tried_layings(alike):
            self.assertIs(self.told(alike, (9, laying, paper)), laying in fitting)

    def test_any_paper_of_two_makes(self):
        found = 0
        for stock in [
            ((3, 3), ()), ((3, 3), ((0, 1, 1),)), ((2, 3), ((0, 1, 1), (1, 0, 1))), ((3, 3), ((0, 1, 2), (1, 0, 2))),
            ((1, 3), ((1, 0, 3),)), ((3, 1), ((0, 1, 2), (1, 0, 1))),
        ]:
            for paper in papers_of(2, 4):
                for laying in [(None, None), (None, 0), (1, None)]:
                    for number in range(1, 8):
                        thing = (number, laying, paper)
                        self.assertIs(shows_least_room(stock, thing), is_least_shown(stock, thing), (stock, thing))
                        found += is_least_shown(stock, thing)
        self.assertGreater(found, 10)

    def test_any_paper_of_three_makes(self):
        found = 0
        for stock in [
            ((4, 4, 4), ((0, 1, 2), (1, 2, 2), (2, 0, 2))), ((3, 4, 4), ((0, 1, 2), (0, 2, 1), (1, 0, 1), (2, 1, 1))),
        ]:
            number, laying, _ = least_room(stock)
            for paper in papers_of(3, 2):
                thing = (number, laying, paper)
                self.assertIs(shows_least_room(stock, thing), is_least_shown(stock, thing), (stock, thing))
                found += is_least_shown(stock, thing)
        self.assertGreater(found, 1)

    def test_other_right_papers_of_many_makes(self):
        wholes = (60,) * 12
        single = [((make,), 60) for make in range(12)]
        self.right((wholes, ()), (720, (None,) * 12, single))
        changes = tuple((a, b, 60) for a in range(12) for b in range(12) if a != b)
        self.right((wholes, changes), (720, (None,) * 12, single))
        self.right((wholes, changes), (720, (None,) + (0,) * 11, single))
        cheap = tuple((a, b, 7) for a, b, _ in changes)
        each = [((make,), 7) for make in range(12)]
        self.right((wholes, cheap), (137, (None,) + (0,) * 11, each + [(tuple(range(12)), 53)]))
        self.right((wholes, cheap), (137, tuple(range(1, 12)) + (None,), [(tuple(range(12)), 53)] + each[::-1]))
        self.wrong((wholes, cheap), (138, (None,) + (0,) * 11, each + [(tuple(range(12)), 54)]))

    def test_a_number_one_more_or_less(self):
        number, laying, paper = RIGHT
        others = [number - 1, number + 1, -number, 0, 10 ** 30, None, True, False, str(number), (number,), [number]]
        for other in others:
            self.wrong(STOCK, (other, laying, paper))
        self.wrong(((), ()), (1, (), []))
        self.wrong(((), ()), (-1, (), []))

    def test_true_and_false_are_no_numbers(self):
        self.wrong(((), ()), (False, (), []))
        self.wrong(((1,), ()), (True, (None,), [((0,), 1)]))
        self.wrong(((1,), ()), (1, (None,), [((0,), True)]))
        self.wrong(((1,), ()), (1, (None,), [((False,), 1)]))
        self.wrong(((1, 1), ()), (2, (None, None), [((0,), 1), ((True,), 1)]))
        self.wrong(((1, 1), ()), (2, (None, None), [((False, True), 1), ((0,), 1)]))
        self.wrong(((3, 3), ((0, 1, 2), (1, 0, 2))), (5, (True, None), [((0,), 2), ((1,), 2), ((0, 1), 1)]))
        self.wrong(((3, 3), ((0, 1, 2), (1, 0, 2))), (5, (None, False), [((0,), 2), ((1,), 2), ((0, 1), 1)]))
        self.right(((3, 3), ((0, 1, 2), (1, 0, 2))), (5, (None, 0), [((0,), 2), ((1,), 2), ((0, 1), 1)]))

    def test_a_set_twice(self):
        number, laying, paper = RIGHT
        for at, (makes, price) in enumerate(paper):
            rest = paper[:at] + paper[at + 1:]
            self.wrong(STOCK, (number, laying, rest + [(makes, 1), (makes, price - 1)]))
            self.wrong(STOCK, (number, laying, [(makes, price - 2)] + rest + [(makes, 2)]))
            self.wrong(STOCK, (number, laying, paper + [(makes, price)]))
        self.wrong(((2,), ()), (2, (None,), [((0,), 1), ((0,), 1)]))

    def test_makes_falling_or_twice(self):
        number, laying, paper = RIGHT
        for makes in [(2, 1, 0), (0, 2, 1), (1, 0, 2), (0, 0, 1, 2), (0, 1, 1, 2), (0, 1, 2, 2)]:
            self.wrong(STOCK, (number, laying, paper[:4] + [(makes, 46)]))
        self.wrong(((5,), ()), (5, (None,), [((0, 0), 5)]))

    def test_no_makes_and_makes_that_are_not_there(self):
        # None of these prices is used up by a change or a whole: only the kind of makes tells them.
        number, laying, paper = RIGHT
        rest = paper[:4]
        for makes in [
            (), (4,), (-1,), (-2, -1), (4, 5), (10 ** 30,), (-1, 0, 1, 2), (0, 1, 2, 4), (None,), ("0",), ((0,),),
        ]:
            self.wrong(STOCK, (number, laying, rest + [(makes, 46)]))
            self.wrong(STOCK, (number, laying, rest + [((0, 1, 2), 45), (makes, 1)]))
            self.wrong(STOCK, (room_laid(STOCK, (None, 0, 1, 2)), (None, 0, 1, 2), paper + [(makes, 1)]))
        self.wrong(((), ()), (1, (), [((), 1)]))
        self.wrong(((), ()), (1, (), [((0,), 1)]))
        self.wrong(((5,), ()), (5, (None,), [((), 5)]))
        self.wrong(((5,), ()), (5, (None,), [((1,), 5)]))

    def test_prices_below_one(self):
        number, laying, paper = RIGHT
        for price in (0, -1, -46, True, False, None, "1", (1,), [1]):
            self.wrong(STOCK, (number, laying, paper + [((0, 3), price)]))
            self.wrong(STOCK, (number, laying, paper[:4] + [((0, 1, 2), price)]))
        # Together they come to the number, and keep within each size.
        less = [((0,), 3), ((1,), 13), ((2,), 4), ((3,), 5), ((0, 1, 2), 46), ((1, 3), -1)]
        self.wrong(STOCK, (number, laying, less))
        self.wrong(((), ()), (0, (), [((), 0)]))
        self.wrong(((5,), ()), (5, (None,), [((0,), 5), ((), 0)]))
        self.right(((2, 2), ()), (4, (None, None), [((0,), 2), ((1,), 2)]))
        self.wrong(((2, 2), ()), (4, (None, None), [((0,), 3), ((1,), 3), ((0, 1), -1), ((), -1)]))

    def test_prices_above_a_whole(self):
        self.right(((5, 9), ()), (14, (None, None), [((0,), 5), ((1,), 9)]))
        for paper in [
            [((0,), 6), ((1,), 8)], [((0,), 4), ((1,), 10)], [((0,), 4), ((1,), 9), ((0, 1), 1)], [((0, 1), 14)],
            [((0,), 5), ((1,), 8), ((0, 1), 1)],
        ]:
            self.wrong(((5, 9), ()), (14, (None, None), paper))

    def test_prices_above_a_change(self):
        stock = ((5, 9), ((0, 1, 2), (1, 0, 3)))
        self.right(stock, (7, (None, 0), [((0,), 3), ((1,), 2), ((0, 1), 2)]))
        self.right(stock, (7, (None, 0), [((0,), 2), ((1,), 2), ((0, 1), 3)]))
        self.right(stock, (7, (None, 0), [((1,), 2), ((0, 1), 5)]))
        self.wrong(stock, (7, (None, 0), [((0,), 4), ((1,), 2), ((0, 1), 1)]))
        self.wrong(stock, (7, (None, 0), [((0,), 3), ((1,), 3), ((0, 1), 1)]))
        self.wrong(stock, (7, (None, 0), [((1,), 3), ((0, 1), 4)]))
        self.wrong(stock, (7, (None, 0), [((0,), 4), ((1,), 3)]))
        # A room that isn't the least, and prices that come to it: some change takes less than they do.
        self.wrong(stock, (12, (1, None), [((0,), 5), ((1,), 7)]))
        self.wrong(stock, (12, (1, None), [((0,), 3), ((1,), 7), ((0, 1), 2)]))
        self.wrong(stock, (14, (None, None), [((0,), 5), ((1,), 9)]))

    def test_the_direction_of_a_change(self):
        stock = ((9, 9), ((0, 1, 2),))
        self.right(stock, (11, (None, 0), [((0,), 9), ((1,), 2)]))
        self.right(stock, (11, (None, 0), [((0,), 2), ((1,), 2), ((0, 1), 7)]))
        self.wrong(stock, (11, (None, 0), [((0,), 2), ((1,), 9)]))
        self.wrong(stock, (11, (1, None), [((0,), 9), ((1,), 2)]))

    def test_a_laying_that_is_none_or_takes_more(self):
        number, laying, paper = RIGHT
        for other in tried_layings(STOCK):
            self.assertIs(self.told(STOCK, (number, other, paper)), other == laying)
            self.wrong(STOCK, (room_laid(STOCK, other) + 1, other, paper))
            if other != laying:
                self.wrong(STOCK, (room_laid(STOCK, other), other, paper))
        for other in [
            (2, 0, 1, 2), (2, None, 1), (2, None, 1, 2, None), (), None, [2, None, 1, 2], (2, None, 1, 3),
            (1, None, 1, 2), (2, None, 1, -2), (2, None, 1, "2"), (2, None, 1, [2]), 70, "laying",
        ]:
            self.wrong(STOCK, (number, other, paper))
        # Both in a ring, each by its change: no make is whole.
        self.wrong(((9, 9), ((0, 1, 2), (1, 0, 2))), (4, (1, 0), [((0,), 2), ((1,), 2)]))

    def test_lists_and_tuples_exchanged(self):
        number, laying, paper = RIGHT
        self.wrong(STOCK, [number, laying, paper])
        self.wrong(STOCK, (number, list(laying), paper))
        self.wrong(STOCK, (number, laying, tuple(paper)))
        for at, (makes, price) in enumerate(paper):
            pairs = [[makes, price], (list(makes), price), [list(makes), price], (makes, [price]), (makes, (price,))]
            for pair in pairs:
                self.wrong(STOCK, (number, laying, paper[:at] + [pair] + paper[at + 1:]))
        self.wrong(((), ()), [0, (), []])
        self.wrong(((), ()), (0, [], []))
        self.wrong(((), ()), (0, (), ()))
        self.wrong(((), ()), (0, [], ()))

    def test_parts_left_out_or_added(self):
        number, laying, paper = RIGHT
        for thing in [
            (), (number,), (number, laying), (laying, paper), (number, paper), (number, laying, paper, None),
            (number, laying, paper, paper), (None, number, laying, paper), (laying, number, paper),
            (number, paper, laying), (RIGHT,), (number, (laying, paper)), (number, laying, [paper]),
            (number, laying, (paper,)), (number, (laying,), paper),
        ]:
            self.wrong(STOCK, thing)
        for at, (makes, price) in enumerate(paper):
            rest = paper[:at] + paper[at + 1:]
            self.wrong(STOCK, (number, laying, rest))
            pairs = [(), (makes,), (price,), (price, makes), (makes, price, 1), (makes, price, None)]
            for pair in pairs + [makes, price, None]:
                self.wrong(STOCK, (number, laying, paper[:at] + [pair] + paper[at + 1:]))
                self.wrong(STOCK, (number, laying, paper + [pair]))
            self.wrong(STOCK, (number, laying, rest + [(makes[:-1], price)]))
        self.wrong(STOCK, (number, laying, paper + [((0, 3), 1)]))
        self.wrong(STOCK, (number, laying, []))

    def test_of_anything_else(self):
        for thing in never_right() + [None, 0, 1, 70, "paper", (), []]:
            self.wrong(STOCK, thing)
            self.wrong(((), ()), thing)
            self.wrong(STOCK, (70, (2, None, 1, 2), thing))
            self.wrong(STOCK, (70, thing, RIGHT[2]))
            self.wrong(STOCK, (70, (2, None, 1, 2), [thing]))
            self.wrong(STOCK, (thing, thing, thing))
        for thing in spoiled(RIGHT):
            self.wrong(STOCK, thing)

    def test_twenty_deep(self):
        number, laying, paper = RIGHT
        for kinds in [(list,), (tuple,), (list, tuple), (tuple, list)]:
            for inner in (0, None, True, "a", (), []):
                for deep in (17, 18, 19, 20):
                    self.wrong(STOCK, nested(inner, deep, kinds))
                for deep in (15, 16, 17):
                    thing = nested(inner, deep, kinds)
                    for put in [(thing, laying, paper), (number, thing, paper), (number, laying, thing)]:
                        self.wrong(STOCK, put)
                    for put in [thing, (thing, 46), ((0, 1, 2), thing), ((thing,), 46), ((0, thing), 46)]:
                        self.wrong(STOCK, (number, laying, paper[:4] + [put]))
            self.wrong(STOCK, nested(RIGHT, 16, kinds))

    def test_spoilt_by_chance(self):
        chance = random.Random(41)
        parts = [0, 1, 2, 3, -1, 4, True, False, None, "", (), [], (0,), (1,), (0, 1), ((0,), 1), (None,), [((0,), 1)]]
        right = 0
        for _ in range(1500):
            makes = chance.randint(0, 4)
            stock = some_stock(chance, makes, 6, 4, 6)
            thing = least_room(stock)
            for _ in range(chance.randint(0, 2)):
                path = chance.choice(places(thing))
                part = part_at(thing, path)
                others = list(parts)
                if type(part) is int:
                    others += [part + 1, part - 1] * 8
                elif isinstance(part, (list, tuple)):
                    mixed = type(part)(chance.sample(part, len(part)))
                    others += [part[::-1], part[1:], part[:-1], part + part[:1], mixed] * 3
                thing = with_part(thing, path, chance.choice(others))
            right += is_least_shown(stock, thing)
            self.assertIs(self.told(stock, thing), is_least_shown(stock, thing), (stock, thing))
        self.assertTrue(450 < right < 1200, right)

    def test_paper_by_the_words_and_least_by_all_layings(self):
        """What is shown is the least: no laying takes less than the prices of a paper together."""
        chance = random.Random(42)
        for _ in range(40):
            stock = some_stock(chance, chance.randint(1, 4), 7, 6, 12)
            least = min(room_laid(stock, laying) for laying in tried_layings(stock))
            for laying in tried_layings(stock):
                thing = (room_laid(stock, laying), laying, least_room(stock)[2])
                self.assertTrue(is_paper(stock, thing[2]))
                self.assertIs(self.told(stock, thing), thing[0] == least)

    def test_nothing_is_kept(self):
        number, laying, paper = copy.deepcopy(RIGHT)
        self.right(STOCK, (number, laying, paper))
        paper[4] = ((0, 1, 2), 45)
        self.wrong(STOCK, (number, laying, paper))
        paper[4] = ((0, 1, 2), 46)
        self.right(STOCK, (number, laying, paper))
        paper.append(((0, 3), 1))
        self.wrong(STOCK, (number, laying, paper))
        self.right(STOCK, RIGHT)

    def test_the_same_again_with_other_stocks_between(self):
        dear = (tuple(size + 1 for size in STOCK[0]), STOCK[1])
        cheap = (STOCK[0], STOCK[1][:3] + ((2, 3, 4),))
        told = [shows_least_room(stock, RIGHT) for stock in (STOCK, dear, STOCK, cheap, STOCK)]
        self.assertEqual(told, [True, False, True, False, True])


if __name__ == "__main__":
    unittest.main()
