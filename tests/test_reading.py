"""reading.py: of promise [7] least_reads and soonest, and what [1] and [2] say of them."""

import itertools
import random
import unittest

from keepwhole.layings import is_laying, reads, stock_of
from keepwhole.reading import least_reads, soonest
from tests.helper import (
    all_come_to, nearest, reads_laid, room_laid, some_stock, some_stocks, tried_layings, with_rings)

GREAT = 10 ** 9


def soonest_by_words(stock):
    """For each make, of all that lets it have the least: the least size, whole first, then the least make."""
    least = nearest(stock)
    laying = []
    for make, whole in enumerate(stock[0]):
        ways = [(whole, -1, None)] if whole == least[make] else []
        ways += [(size, a, a) for a, b, size in stock[1] if b == make and least[a] + size == least[make]]
        laying.append(min(ways)[2])
    return tuple(laying)


def few_makes(chance):
    """Stocks of 0 to 5 makes, some with many ways that are equally near."""
    stocks = [stock for makes in range(6) for stock in some_stocks(chance, makes)]
    for _ in range(30):
        makes = chance.randint(2, 5)
        stock = some_stock(chance, makes, 10, 3, 1)
        stocks.append((tuple(chance.randint(1, 7) for _ in range(makes)), stock[1]))
    for makes in (2, 3, 4, 5):
        stocks.append(with_rings(some_stock(chance, makes, 4, 9, 20), [tuple(range(makes))], 1))
    return stocks


class Reading(unittest.TestCase):
    def told(self, stock):
        """The least reads and the soonest laying, their kinds looked at, and each asked twice."""
        before = repr(stock)
        numbers = least_reads(stock)
        laying = soonest(stock)
        self.assertEqual((least_reads(stock), soonest(stock)), (numbers, laying))
        self.assertEqual(repr(stock), before)
        self.assertEqual((type(numbers), len(numbers)), (tuple, len(stock[0])))
        self.assertEqual((type(laying), len(laying)), (tuple, len(stock[0])))
        self.assertLessEqual({type(number) for number in numbers}, {int})
        self.assertLessEqual({type(on) for on in laying}, {int, type(None)})
        self.assertIs(is_laying(stock, laying), True, (stock, laying))
        self.assertTrue(all_come_to(laying))
        self.assertEqual(reads(stock, laying), numbers, (stock, laying))
        self.assertEqual(reads_laid(stock, laying), numbers, (stock, laying))
        return numbers, laying

    def test_known(self):
        for stock, numbers, laying in [
            (((), ()), (), ()),
            (((7,), ()), (7,), (None,)),
            (((7, 1, GREAT), ()), (7, 1, GREAT), (None, None, None)),
            (((5, 9), ((0, 1, 3), (1, 0, 1))), (5, 8), (None, 0)),
            (((5, 9), ((0, 1, 5), (1, 0, 1))), (5, 9), (None, None)),
            (((10, 20, 30), ((0, 1, 4), (0, 2, 5), (1, 0, 6), (2, 1, 7))), (10, 14, 15), (None, 0, 0)),
            (((10, 20, 30), ((0, 1, 4), (0, 2, 15), (1, 2, 7), (2, 1, 7))), (10, 14, 21), (None, 0, 1)),
            (((30, 20, 10), ((1, 0, 4), (2, 0, 15), (2, 1, 7))), (21, 17, 10), (1, 2, None)),
        ]:
            self.assertEqual(self.told(stock), (numbers, laying))

    def test_equally_near_whole_or_by_a_change(self):
        # The change is less than the whole, and lets the make have as little to read.
        self.assertEqual(self.told(((5, 9), ((0, 1, 4),))), ((5, 9), (None, 0)))
        self.assertEqual(self.told(((9, 5), ((1, 0, 4),))), ((9, 5), (1, None)))
        self.assertEqual(self.told(((1, 2), ((0, 1, 1),))), ((1, 2), (None, 0)))
        self.assertEqual(self.told(((GREAT - 1, GREAT), ((0, 1, 1),))), ((GREAT - 1, GREAT), (None, 0)))

    def test_whole_ahead_of_a_change_as_great(self):
        # On another make there is more to read than by the whole that is as great, or less.
        for size in (9, 10, 5, GREAT):
            self.assertEqual(self.told(((5, 9), ((0, 1, size),))), ((5, 9), (None, None)))
        self.assertEqual(self.told(((1, 1), ((0, 1, 1), (1, 0, 1)))), ((1, 1), (None, None)))
        pairs = list(itertools.permutations(range(12), 2))
        for size in (1, 2, 7, GREAT):
            stock = ((size,) * 12, tuple((a, b, size) for a, b in pairs))
            self.assertEqual(self.told(stock), ((size,) * 12, (None,) * 12))

    def test_equally_near_by_the_least_size(self):
        # Make 3 has 12 to read by each: 10 + 2, 8 + 4, 9 + 3; and whole.
        for whole in (12, 13, GREAT):
            stock = ((10, 8, 9, whole), ((0, 3, 2), (1, 3, 4), (2, 3, 3)))
            self.assertEqual(self.told(stock), ((10, 8, 9, 12), (None, None, None, 0)))
            stock = ((8, 9, 10, whole), ((0, 3, 4), (1, 3, 3), (2, 3, 2)))
            self.assertEqual(self.told(stock), ((8, 9, 10, 12), (None, None, None, 2)))
            stock = ((8, 10, 9, whole), ((0, 3, 4), (1, 3, 2), (2, 3, 3)))
            self.assertEqual(self.told(stock), ((8, 10, 9, 12), (None, None, None, 1)))
        # By the longer way the last change is less.
        stock = ((6, 50, 50), ((0, 1, 2), (0, 2, 5), (1, 2, 3)))
        self.assertEqual(self.told(stock), ((6, 8, 11), (None, 0, 1)))

    def test_equally_near_and_as_great_by_the_least_make(self):
        stock = ((7, 7, 7, 50), ((0, 3, 2), (1, 3, 2), (2, 3, 2)))
        self.assertEqual(self.told(stock), ((7, 7, 7, 9), (None, None, None, 0)))
        stock = ((50, 7, 7, 7), ((1, 0, 2), (2, 0, 2), (3, 0, 2)))
        self.assertEqual(self.told(stock), ((9, 7, 7, 7), (1, None, None, None)))
        stock = ((8, 7, 7, 50), ((0, 3, 2), (1, 3, 2), (2, 3, 2)))
        self.assertEqual(self.told(stock), ((8, 7, 7, 9), (None, None, None, 1)))
        stock = ((7, 50, 7, 7), ((0, 1, 3), (2, 1, 2), (3, 1, 2)))
        self.assertEqual(self.told(stock), ((7, 9, 7, 7), (None, 2, None, None)))

    def test_few_makes_by_all_layings(self):
        for stock in few_makes(random.Random(50)):
            layings = tried_layings(stock)
            read = [reads_laid(stock, laying) for laying in layings]
            numbers, laying = self.told(stock)
            self.assertEqual(numbers, tuple(map(min, zip(*read))), stock)
            fitting = [other for other, own in zip(layings, read) if own == numbers]
            self.assertIn(laying, fitting)
            self.assertEqual(room_laid(stock, laying), min(room_laid(stock, other) for other in fitting), stock)
            # Each by the least size that lets it, so all makes at once; of equal ones the first make to rest on.
            least = [other for other in fitting if room_laid(stock, other) == room_laid(stock, laying)]
            self.assertEqual(laying, least[0], stock)
            self.assertEqual(laying, soonest_by_words(stock))

    def test_some_to_twelve_makes(self):
        chance = random.Random(51)
        for makes in range(13):
            for _ in range(4):
                for stock in some_stocks(chance, makes):
                    self.assertEqual(self.told(stock), (nearest(stock), soonest_by_words(stock)), stock)

    def test_twelve_makes_with_many_equally_near(self):
        chance = random.Random(52)
        for _ in range(100):
            changes = some_stock(chance, 12, chance.choice([2, 5, 10]), 3, 1)[1]
            stock = (tuple(chance.randint(1, 15) for _ in range(12)), changes)
            self.assertEqual(self.told(stock), (nearest(stock), soonest_by_words(stock)), stock)

    def test_rows_of_twelve_both_ways(self):
        rising = tuple((make, make + 1, 2) for make in range(11))
        falling = tuple((make + 1, make, 2) for make in range(11))
        numbers = tuple(range(5, 29, 2))
        self.assertEqual(self.told(((5,) + (90,) * 11, rising)), (numbers, (None,) + tuple(range(11))))
        self.assertEqual(self.told(((90,) * 11 + (5,), falling)), (numbers[::-1], tuple(range(1, 12)) + (None,)))
        order = (3, 9, 0, 11, 5, 1, 8, 2, 10, 4, 7, 6)
        mixed = tuple(sorted((a, b, 2) for a, b in zip(order, order[1:])))
        wholes = tuple(5 if make == 3 else 90 for make in range(12))
        told = self.told((wholes, mixed))
        self.assertEqual([told[0][make] for make in order], list(numbers))
        self.assertEqual([told[1][make] for make in order], [None] + list(order[:-1]))

    def test_every_order_of_a_row_of_five(self):
        for order in itertools.permutations(range(5)):
            changes = tuple(sorted((a, b, 1) for a, b in zip(order, order[1:])))
            stock = (tuple(3 if make == order[0] else 50 for make in range(5)), changes)
            numbers, laying = self.told(stock)
            self.assertEqual([numbers[make] for make in order], [3, 4, 5, 6, 7])
            self.assertEqual([laying[make] for make in order], [None] + list(order[:-1]))

    def test_great_sizes(self):
        row = tuple((make, make + 1, GREAT) for make in range(11))
        self.assertEqual(self.told(((GREAT,) * 12, row)), ((GREAT,) * 12, (None,) * 12))
        row = tuple((make, make + 1, 1) for make in range(11))
        wholes = (GREAT - 20,) + (GREAT,) * 11
        self.assertEqual(self.told((wholes, row)), (tuple(range(GREAT - 20, GREAT - 8)), (None,) + tuple(range(11))))

    def test_a_stock_told_of_things(self):
        chance = random.Random(53)
        for makes in (1, 4, 12):
            things = [tuple(chance.randrange(3) for _ in range(chance.randrange(25))) for _ in range(makes)]
            stock = stock_of(things)
            self.assertEqual(self.told(stock), (nearest(stock), soonest_by_words(stock)))

    def test_a_row_of_thirty(self):
        row = tuple((make, make + 1, 3) for make in range(29))
        stock = ((10,) + (60,) * 29, row)
        self.assertEqual(self.told(stock), (nearest(stock), soonest_by_words(stock)))

    def test_the_same_again_with_others_between(self):
        chance = random.Random(54)
        stocks = [some_stock(chance, 6, 7, 9, 20) for _ in range(20)]
        first = [(least_reads(stock), soonest(stock)) for stock in stocks]
        self.assertEqual([(least_reads(stock), soonest(stock)) for stock in stocks[::-1]], first[::-1])


if __name__ == "__main__":
    unittest.main()
