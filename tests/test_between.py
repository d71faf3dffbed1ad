"""between.py: of promise [8] is_even and between, and what [1] and [2] say of them."""

import random
import unittest

from keepwhole.between import between, is_even
from keepwhole.layings import is_laying, stock_of
from keepwhole.leastroom import least_room
from keepwhole.reading import soonest
from keepwhole.rows import row_stock
from tests.helper import (
    all_come_to, asked, even_stock, even_stocks, hub_stock, is_least_shown, nearest, nested, never_right, reads_laid,
    room_laid, some_stocks, spoiled, told, tried_layings)

GREAT = 10 ** 9

# Top and below: near each other, far from each other, with common factors, at both ends of what may be handed in.
FACTORS = [
    (2, 1), (3, 1), (3, 2), (4, 3), (5, 2), (7, 3), (10, 9), (100, 99), (1000, 1), (1000, 999), (1000, 500),
    (1000, 333), (1000, 10), (20, 15), (5, 1), (12, 1), (501, 500)]


def is_kept_to(stock, top, below, laying):
    """Whether the laying keeps both factors, by the least room and the least reads."""
    read = zip(reads_laid(stock, laying), nearest(stock))
    return keeps_room(stock, top, below, laying) and all(below * own <= top * least for own, least in read)


def keeps_room(stock, top, below, laying):
    number = least_room(stock)[0]
    return (top - below) * room_laid(stock, laying) <= (top + below) * number


class IsEven(unittest.TestCase):
    def even(self, thing, right):
        self.assertIs(asked(self, is_even, thing), right, thing)

    def test_none_one_and_no_changes(self):
        for wholes in [(), (1,), (GREAT,), (3, 4), (1, 1, 1)]:
            self.even((wholes, ()), True)

    def test_both_ways(self):
        self.even(((3, 4), ((0, 1, 2), (1, 0, 2))), True)
        self.even(((3, 4), ((0, 1, GREAT), (1, 0, GREAT))), True)
        self.even(((3, 4, 5), ((0, 2, 7), (2, 0, 7))), True)
        self.even(((3, 4, 5), ((0, 1, 9), (0, 2, 7), (1, 0, 9), (2, 0, 7))), True)
        # Wholes need not be alike, nor the changes of other makes.
        self.even(((3, 4, 5), ((0, 1, 1), (0, 2, 2), (1, 0, 1), (1, 2, 3), (2, 0, 2), (2, 1, 3))), True)

    def test_one_way_left_out(self):
        self.even(((3, 4), ((0, 1, 2),)), False)
        self.even(((3, 4), ((1, 0, 2),)), False)
        # Around a ring, so that each make has one change to it and one from it.
        self.even(((3, 4, 5), ((0, 1, 2), (1, 2, 2), (2, 0, 2))), False)
        self.even(((3, 4, 5), ((0, 1, 2), (2, 1, 2))), False)
        self.even(((3, 4, 5), ((1, 0, 2), (1, 2, 2))), False)
        for makes in (2, 3, 12):
            for stock in even_stocks(random.Random(60), makes):
                self.even(stock, True)
                for at in range(len(stock[1])):
                    self.even((stock[0], stock[1][:at] + stock[1][at + 1:]), False)

    def test_one_size_otherwise(self):
        self.even(((3, 4), ((0, 1, 2), (1, 0, 3))), False)
        self.even(((3, 4), ((0, 1, 3), (1, 0, 2))), False)
        self.even(((3, 4, 5), ((0, 1, 2), (0, 2, 3), (1, 0, 3), (2, 0, 2))), False)
        for makes in (2, 3, 12):
            for stock in even_stocks(random.Random(61), makes):
                for at, (a, b, size) in enumerate(stock[1]):
                    for other in (size + 1, 2 * size, size + GREAT):
                        self.even((stock[0], stock[1][:at] + ((a, b, other),) + stock[1][at + 1:]), False)

    def test_stocks_told(self):
        self.even(stock_of([(1, 2, 3), (1, 2, 3)]), True)
        self.even(stock_of([(1, 2, 3), (4, 5, 6)]), True)
        self.even(stock_of([(1, 2, 3), (1, 2, 3, 4)]), False)
        self.even(stock_of([]), True)
        self.even(row_stock(((4,), ())), True)
        self.even(row_stock(((4, 5), (3,))), False)
        self.even(row_stock(((4,) * 30, (3,) * 29)), False)

    def test_some_by_the_words(self):
        chance = random.Random(62)
        for makes in range(6):
            for _ in range(20):
                for stock in some_stocks(chance, makes):
                    there = {(a, b, size) for a, b, size in stock[1]}
                    self.even(stock, there == {(b, a, size) for a, b, size in stock[1]})

    def test_of_what_is_no_stock(self):
        stock = ((3, 4, 5), ((0, 1, 9), (0, 2, 7), (1, 0, 9), (2, 0, 7)))
        for thing in never_right() + spoiled(stock) + [None, 0, 1, (), ((),), ((), (), ()), ((), []), ([], ())]:
            self.even(thing, False)
        for thing in [
            ((3, 4), ((1, 0, 2), (0, 1, 2))), ((3, 4), ((0, 1, 2), (1, 0, 2), (1, 0, 2))), ((3, 0), ()),
            ((3, 4), ((0, 0, 2),)), ((3, 4), ((0, 1, 0), (1, 0, 0))), ((3, 4), ((0, 2, 1), (2, 0, 1))),
            ((3, 4), ((0, True, 2), (True, 0, 2))), ((3, 4), ((0, 1, True), (1, 0, 1))),
        ]:
            self.even(thing, False)
        for kinds in [(list,), (tuple,), (list, tuple), (tuple, list)]:
            for inner in (0, None, True, "a", (), []):
                for deep in range(1, 21):
                    self.even(nested(inner, deep, kinds), False)


class Between(unittest.TestCase):
    def least(self, stock):
        """The least room, shown by its paper, and the least reads; each stock is gone into only once."""
        if stock not in self.known:
            shown = least_room(stock)
            self.assertTrue(is_least_shown(stock, shown))
            self.known[stock] = (shown[0], nearest(stock))
        return self.known[stock]

    def setUp(self):
        self.known = {}

    def laid(self, stock, top, below):
        """What is told for a stock, looked at by the words of the promise."""
        laying = told(self, between, stock, top, below)
        self.assertIs(type(laying), tuple)
        self.assertLessEqual({type(on) for on in laying}, {int, type(None)})
        self.assertIs(is_laying(stock, laying), True, (stock, laying))
        self.assertEqual(len(laying), len(stock[0]))
        self.assertTrue(all_come_to(laying))
        number, numbers = self.least(stock)
        for own, least in zip(reads_laid(stock, laying), numbers):
            self.assertLessEqual(below * own, top * least, (stock, top, below, laying))
        self.assertLessEqual((top - below) * room_laid(stock, laying), (top + below) * number, (stock, top, below))
        return laying

    def test_none_and_one(self):
        for top, below in FACTORS:
            self.assertEqual(self.laid(((), ()), top, below), ())
            self.assertEqual(self.laid(((1,), ()), top, below), (None,))
            self.assertEqual(self.laid(((GREAT,), ()), top, below), (None,))
            self.assertEqual(self.laid(((7, 1, GREAT), ()), top, below), (None,) * 3)

    def test_where_only_one_laying_keeps_both(self):
        # Of two makes: the change lets make 1 be read by 4 + 5, whole by 6; together they take 9, or 10.
        stock = ((4, 6), ((0, 1, 5), (1, 0, 5)))
        self.assertEqual(self.laid(stock, 4, 3), (None, None))
        self.assertEqual(self.laid(stock, 149, 100), (None, None))
        # The room by the change is 101, whole 200: at most 1001 / 999 of the least.
        stock = ((100, 100), ((0, 1, 1), (1, 0, 1)))
        self.assertIn(self.laid(stock, 1000, 1), [(None, 0), (1, None)])
        self.assertIn(self.laid(stock, 4, 1), [(None, 0), (1, None)])
        # By 3 makes a row: 100, 101, 102.
        stock = ((100, 100, 100), ((0, 1, 1), (1, 0, 1), (1, 2, 1), (2, 1, 1)))
        self.assertIn(self.laid(stock, 1000, 1), [(None, 0, 1), (1, None, 1), (1, 2, None)])
        self.assertIn(self.laid(stock, 101, 100), [(None, None, None), (1, None, 1), (None, 0, None), (None, None, 1)])

    def test_few_makes_by_all_layings(self):
        chance = random.Random(63)
        for makes in range(6):
            for stock in even_stocks(chance, makes):
                layings = tried_layings(stock)
                least = min(room_laid(stock, laying) for laying in layings)
                for top, below in FACTORS[:6] + [(1000, 999)]:
                    laying = self.laid(stock, top, below)
                    self.assertIn(laying, layings)
                    self.assertLessEqual((top - below) * room_laid(stock, laying), (top + below) * least)

    def test_to_twelve_makes(self):
        chance = random.Random(64)
        for makes in range(6, 13):
            for stock in even_stocks(chance, makes):
                for top, below in chance.sample(FACTORS, 6):
                    self.laid(stock, top, below)

    def test_any_factors(self):
        chance = random.Random(65)
        stocks = [stock for makes in (4, 8, 12) for stock in even_stocks(chance, makes)]
        for _ in range(3):
            for stock in stocks:
                below = chance.choice([1, chance.randint(1, 20), chance.randint(1, 999)])
                self.laid(stock, chance.choice([below + 1, 1000, chance.randint(below + 1, 1000)]), below)

    def test_neither_the_least_room_nor_the_least_reads(self):
        """Both wishes bind: in some stocks the one laying, in some the other, in some neither keeps both factors."""
        chance = random.Random(66)
        counts = [0, 0, 0]
        for makes in (8, 12):
            for stock in even_stocks(chance, makes) + even_stocks(chance, makes):
                for top, below in FACTORS:
                    soon = is_kept_to(stock, top, below, soonest(stock))
                    least = is_kept_to(stock, top, below, least_room(stock)[1])
                    counts[0] += not soon
                    counts[1] += not least
                    counts[2] += not soon and not least
                    if not soon and not least:
                        self.laid(stock, top, below)
        self.assertGreater(min(counts), 4, counts)

    def test_many_close_to_each_other_and_each_a_little_too_far(self):
        """Each kept whole would take far too much room; the way to one of them serves all."""
        missed = 0
        for top, below in [(2, 1), (3, 1), (3, 2), (4, 3), (5, 2), (7, 3), (1000, 500), (4, 1), (5, 1), (9, 2)]:
            for whole in (100, 1000, 10 ** 6):
                for makes in (8, 10, 12):
                    stock = hub_stock(makes, top, below, whole)
                    self.assertIs(is_even(stock), True)
                    self.laid(stock, top, below)
                    others = [make for make, size in enumerate(stock[0]) if size == whole]
                    laying = list(least_room(stock)[1])
                    self.assertFalse(is_kept_to(stock, top, below, tuple(laying)))
                    for make in others:
                        laying[make] = None
                    missed += not keeps_room(stock, top, below, tuple(laying))
        self.assertGreater(missed, 30)

    def test_far_ways_of_growing_steps(self):
        for makes in range(2, 13):
            for wholes in [[2 ** make for make in range(makes)], [2 ** (makes - make) for make in range(makes)]]:
                for step in (1, 2, 3):
                    sizes = {(make, make + 1): step ** make for make in range(makes - 1)}
                    stock = even_stock(wholes, sizes)
                    for top, below in FACTORS:
                        self.laid(stock, top, below)

    def test_great_sizes(self):
        chance = random.Random(67)
        for least in (1, GREAT // 2, GREAT - 3, GREAT):
            pairs = [(a, b) for a in range(12) for b in range(a)]
            sizes = {pair: chance.randint(least, GREAT) for pair in pairs}
            stock = even_stock([chance.randint(least, GREAT) for _ in range(12)], sizes)
            for top, below in FACTORS:
                self.laid(stock, top, below)

    def test_the_same_again_with_others_between(self):
        stocks = even_stocks(random.Random(68), 7)
        first = [between(stock, 5, 3) for stock in stocks]
        self.assertEqual([between(stock, 5, 3) for stock in stocks[::-1]], first[::-1])
        for stock in stocks:
            between(stock, 1000, 1)
        self.assertEqual([between(stock, 5, 3) for stock in stocks], first)


if __name__ == "__main__":
    unittest.main()
