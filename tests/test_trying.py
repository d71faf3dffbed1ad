"""trying.py: promise [5], and what [1] and [2] say of it."""

import itertools
import random
import unittest

from keepwhole.trying import all_layings, best_within
from tests.helper import (
    deepest_laid, reads_laid, rising, room_laid, some_stock, some_stocks, tried_layings, with_rings)

# Three makes; no change from 2 to 0, nor from 1 to 2.
STOCK = ((10, 20, 30), ((0, 1, 4), (0, 2, 5), (1, 0, 6), (2, 1, 7)))


def all_changes(makes, size=1, whole=5):
    pairs = itertools.permutations(range(makes), 2)
    return ((whole,) * makes, tuple((a, b, size) for a, b in pairs))


def few_makes(chance):
    """Stocks of 0 to 5 makes."""
    stocks = [stock for makes in range(6) for stock in some_stocks(chance, makes)]
    for makes in (2, 3, 4, 5):
        ring = tuple(range(makes))
        stocks.append(with_rings(some_stock(chance, makes, 4, 9, 20), [ring], 1))
        stocks.append(with_rings(some_stock(chance, makes, 0, 1, 20), [ring, ring[::-1]], 2))
    return stocks


class AllLayings(unittest.TestCase):
    def told(self, stock):
        before = repr(stock)
        layings = all_layings(stock)
        self.assertEqual(repr(stock), before)
        self.assertIs(type(layings), list)
        for laying in layings:
            self.assertIs(type(laying), tuple)
            self.assertLessEqual({type(on) for on in laying}, {int, type(None)})
        return layings

    def test_known(self):
        for stock, layings in [
            (((), ()), [()]),
            (((1,), ()), [(None,)]),
            (((1, 1), ()), [(None, None)]),
            (((1, 1), ((0, 1, 9),)), [(None, None), (None, 0)]),
            (((1, 1), ((1, 0, 9),)), [(None, None), (1, None)]),
            (((1, 1), ((0, 1, 1), (1, 0, 1))), [(None, None), (None, 0), (1, None)]),
            (((1,) * 5, ()), [(None,) * 5]),
            (((1,) * 5, ((4, 0, 3),)), [(None,) * 5, (4, None, None, None, None)]),
            (STOCK, [
                (None, None, None), (None, None, 0), (None, 0, None), (None, 0, 0), (None, 2, None), (None, 2, 0),
                (1, None, None), (1, None, 0), (1, 2, None)]),
        ]:
            self.assertEqual(self.told(stock), layings)

    def test_all_of_three_makes_rise(self):
        self.assertEqual(self.told(all_changes(3)), [
            (None, None, None), (None, None, 0), (None, None, 1), (None, 0, None), (None, 0, 0), (None, 0, 1),
            (None, 2, None), (None, 2, 0), (1, None, None), (1, None, 0), (1, None, 1), (1, 2, None), (2, None, None),
            (2, None, 1), (2, 0, None), (2, 2, None)])

    def test_as_many_as_there_are(self):
        for makes, many in enumerate([1, 1, 3, 16, 125, 1296]):
            layings = self.told(all_changes(makes))
            self.assertEqual(len(layings), many)
            self.assertEqual(len(set(layings)), many)
            self.assertEqual(layings, rising(layings))

    def test_rings_are_left_out(self):
        for makes in (2, 3, 4, 5):
            for ring in (tuple(range(makes)), tuple(range(makes))[::-1]):
                stock = with_rings(((3,) * makes, ()), [ring], 1)
                # Any of the makes around the ring may rest on the one ahead of it, but not all of them.
                self.assertEqual(len(self.told(stock)), 2 ** makes - 1)
                self.assertEqual(self.told(stock), tried_layings(stock))

    def test_some(self):
        for stock in few_makes(random.Random(20)):
            self.assertEqual(self.told(stock), tried_layings(stock), stock)

    def test_the_list_is_the_askers_own(self):
        for stock in [((), ()), ((1,), ()), STOCK, all_changes(4)]:
            first = all_layings(stock)
            second = all_layings(stock)
            self.assertIsNot(first, second)
            told = list(second)
            first.reverse()
            first.append("more")
            self.assertEqual(second, told)
            self.assertEqual(all_layings(stock), told)

    def test_the_same_again_with_others_between(self):
        other = ((10, 20, 30), ((0, 1, 4), (0, 2, 5), (1, 2, 6)))
        told = [all_layings(stock) for stock in (STOCK, other, STOCK, all_changes(3), other)]
        self.assertEqual(told[0], told[2])
        self.assertEqual(told[1], told[4])
        self.assertNotEqual(told[0], told[1])


class BestWithin(unittest.TestCase):
    def told(self, stock, most_deep, most_read):
        before = repr(stock)
        best = best_within(stock, most_deep, most_read)
        self.assertEqual(repr(stock), before)
        if best is not None:
            self.assertEqual((type(best), len(best)), (tuple, 2))
            self.assertEqual((type(best[0]), type(best[1])), (int, tuple))
        return best

    def tried(self, stock, most_deep, most_read):
        """The same, of all layings, by the least of what each has."""
        within = [
            (room_laid(stock, laying), number, laying) for number, laying in enumerate(tried_layings(stock))
            if (most_deep is None or deepest_laid(laying) <= most_deep)
            and (most_read is None or max(reads_laid(stock, laying), default=0) <= most_read)]
        return (min(within)[0], min(within)[2]) if within else None

    def test_known(self):
        for most_deep, most_read, best in [
            (None, None, (19, (None, 0, 0))), (0, None, (60, (None, None, None))), (1, None, (19, (None, 0, 0))),
            (None, 15, (19, (None, 0, 0))), (None, 14, None), (0, 30, (60, (None, None, None))), (0, 29, None),
            (1, 15, (19, (None, 0, 0))), (1, 14, None), (1, 0, None), (None, 0, None), (0, 0, None),
            (10 ** 9, 10 ** 18, (19, (None, 0, 0))),
        ]:
            self.assertEqual(self.told(STOCK, most_deep, most_read), best, (most_deep, most_read))

    def test_a_longer_way_takes_less(self):
        # Each on the one ahead of it takes 1, on the one two ahead 3, make 3 on 0 takes 6.
        stock = ((20, 21, 22, 23), ((0, 1, 1), (0, 2, 3), (0, 3, 6), (1, 2, 1), (1, 3, 3), (2, 3, 1)))
        whole = (None, None, None, None)
        for most_deep, most_read, best in [
            (None, None, (23, (None, 0, 1, 2))), (3, None, (23, (None, 0, 1, 2))), (2, None, (25, (None, 0, 0, 2))),
            (1, None, (30, (None, 0, 0, 0))), (0, None, (86, whole)), (3, 23, (23, (None, 0, 1, 2))), (3, 22, None),
            (None, 23, (23, (None, 0, 1, 2))), (None, 22, None), (2, 24, (25, (None, 0, 0, 2))),
            (2, 23, (43, (None, None, 1, 2))), (1, 26, (30, (None, 0, 0, 0))), (1, 25, (44, (None, 0, None, 2))),
            (0, 23, (86, whole)), (0, 22, None),
        ]:
            self.assertEqual(self.told(stock, most_deep, most_read), best, (most_deep, most_read))

    def test_no_makes(self):
        for most_deep in (None, 0, 1):
            for most_read in (None, 0, 1):
                self.assertEqual(self.told(((), ()), most_deep, most_read), (0, ()))

    def test_one_make(self):
        for most_deep in (None, 0, 1):
            for most_read, best in [(None, (7, (None,))), (8, (7, (None,))), (7, (7, (None,))), (6, None), (0, None)]:
                self.assertEqual(self.told(((7,), ()), most_deep, most_read), best)

    def test_of_equal_ones_the_first(self):
        self.assertEqual(self.told(all_changes(2, 5, 5), None, None), (10, (None, None)))
        self.assertEqual(self.told(all_changes(2, 4, 5), None, None), (9, (None, 0)))
        self.assertEqual(self.told(all_changes(3, 1, 5), None, None), (7, (None, 0, 0)))
        self.assertEqual(self.told(all_changes(5, 1, 5), None, None), (9, (None, 0, 0, 0, 0)))
        # Both makes on the other one take 12 together with it; the laying in which make 0 is whole is first.
        self.assertEqual(self.told(((6, 7), ((0, 1, 6), (1, 0, 5))), None, None), (12, (None, 0)))

    def test_each_bound_just_met_and_just_missed(self):
        for stock in few_makes(random.Random(21)):
            layings = tried_layings(stock)
            if len(layings) > 130:
                continue
            rooms = [room_laid(stock, laying) for laying in layings]
            least = layings[rooms.index(min(rooms))]
            met = max(reads_laid(stock, least), default=0)
            soon = min(max(reads_laid(stock, laying), default=0) for laying in layings)
            deeps = [None, 0, deepest_laid(least), max(deepest_laid(least) - 1, 0)]
            for most_deep in deeps:
                for most_read in [None, 0, met, max(met - 1, 0), soon, max(soon - 1, 0)]:
                    best = self.told(stock, most_deep, most_read)
                    self.assertEqual(best, self.tried(stock, most_deep, most_read), (stock, most_deep, most_read))
            if stock[0]:
                self.assertIsNone(self.told(stock, None, soon - 1))
                self.assertIsNone(self.told(stock, None, 0))
                self.assertEqual(self.told(stock, 0, None), (sum(stock[0]), (None,) * len(stock[0])))

    def test_five_makes(self):
        chance = random.Random(22)
        for size, whole in [(9, 20), (10 ** 9, 10 ** 9), (2, 3)]:
            stock = some_stock(chance, 5, 10, size, whole)
            far = max(reads_laid(stock, best_within(stock, None, None)[1]))
            for most_deep, most_read in [(None, None), (1, None), (2, far), (None, far - 1), (0, None)]:
                told = self.told(stock, most_deep, most_read)
                self.assertEqual(told, self.tried(stock, most_deep, most_read))

    def test_the_same_again_with_others_between(self):
        other = ((10, 20, 30), ((0, 1, 5), (0, 2, 6), (1, 0, 6)))
        questions = [(STOCK, None, None), (other, None, None), (STOCK, 0, None), (STOCK, None, 14)]
        first = [best_within(*question) for question in questions]
        self.assertEqual(first, [(19, (None, 0, 0)), (21, (None, 0, 0)), (60, (None, None, None)), None])
        self.assertEqual([best_within(*question) for question in questions[::-1]], first[::-1])


if __name__ == "__main__":
    unittest.main()
