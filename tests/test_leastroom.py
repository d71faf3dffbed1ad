"""leastroom.py: promise [6], and what [1] and [2] say of it."""

import random
import unittest

from keepwhole.layings import is_laying, room, stock_of
from keepwhole.leastroom import least_room
from keepwhole.pricecheck import shows_least_room
from tests.helper import (
    all_come_to, is_least_shown, is_paper, room_laid, some_stock, some_stocks, tried_layings, with_rings)

GREAT = 10 ** 9


class LeastRoom(unittest.TestCase):
    def told(self, stock):
        """What least_room tells, each of the document's words on it asked first."""
        before = repr(stock)
        told = least_room(stock)
        self.assertEqual(repr(stock), before)
        self.assertEqual((type(told), len(told)), (tuple, 3))
        number, laying, paper = told
        self.assertEqual((type(number), type(laying), type(paper)), (int, tuple, list))
        self.assertLessEqual({type(on) for on in laying}, {int, type(None)})
        self.assertIs(is_laying(stock, laying), True, (stock, told))
        self.assertTrue(all_come_to(laying), (stock, told))
        self.assertEqual(room(stock, laying), number, stock)
        self.assertEqual(room_laid(stock, laying), number, stock)
        self.assertTrue(is_paper(stock, paper), (stock, told))
        self.assertEqual(sum(price for _, price in paper), number, (stock, told))
        self.assertTrue(is_least_shown(stock, told))
        self.assertIs(shows_least_room(stock, told), True, (stock, told))
        return told

    def number(self, stock):
        return self.told(stock)[0]

    def test_no_makes(self):
        self.assertEqual(self.told(((), ())), (0, (), []))

    def test_one_make(self):
        self.assertEqual(self.told(((7,), ())), (7, (None,), [((0,), 7)]))
        self.assertEqual(self.told(((1,), ())), (1, (None,), [((0,), 1)]))

    def test_without_changes(self):
        for wholes in [(1, 1), (3, 9, 3), tuple(range(1, 13)), (GREAT,) * 12]:
            self.assertEqual(self.told((wholes, ()))[:2], (sum(wholes), (None,) * len(wholes)))

    def test_two_makes(self):
        for stock, number, laying in [
            (((5, 9), ((0, 1, 2),)), 7, (None, 0)), (((5, 9), ((1, 0, 2),)), 11, (1, None)),
            (((5, 9), ((0, 1, 4), (1, 0, 1))), 9, (None, 0)), (((5, 9), ((0, 1, 7), (1, 0, 2))), 11, (1, None)),
            (((5, 9), ((0, 1, 10), (1, 0, 6))), 14, (None, None)), (((1, 1), ((0, 1, GREAT),)), 2, (None, None)),
            (((GREAT, GREAT), ((0, 1, 1),)), GREAT + 1, (None, 0)),
        ]:
            self.assertEqual(self.told(stock)[:2], (number, laying))

    def test_a_ring_of_cheap_changes(self):
        for makes in range(2, 13):
            ring = tuple(range(makes))
            for order in (ring, ring[::-1], ring[::2] + ring[1::2]):
                stock = with_rings((tuple(100 + 7 * make for make in ring), ()), [order], 1)
                self.assertEqual(self.number(stock), 100 + makes - 1)
                stock = with_rings((tuple(200 - 7 * make for make in ring), ()), [order], 2)
                self.assertEqual(self.number(stock), 200 - 7 * (makes - 1) + 2 * (makes - 1))

    def test_a_ring_is_entered_where_it_costs_least_more(self):
        # Make 3 is come to from the ring 0, 1, 2 only; the ring is cheapest entered at 1, for what 1 takes in it.
        stock = ((50, 58, 55, 90), ((0, 1, 12), (1, 2, 4), (2, 0, 3), (2, 3, 5)))
        self.assertEqual(self.told(stock)[:2], (70, (2, None, 1, 2)))
        stock = ((50, 60, 55, 90), ((0, 1, 12), (1, 2, 4), (2, 0, 3), (2, 3, 5)))
        self.assertEqual(self.told(stock)[:2], (71, (None, 0, 1, 2)))

    def test_rings_within_rings(self):
        # 0 and 1 in a ring of 1, both with 2 in one of 3, all with 3 in one of 9.
        stock = ((70, 71, 72, 73), ((0, 1, 1), (0, 2, 3), (1, 0, 1), (2, 1, 3), (2, 3, 9), (3, 0, 9)))
        self.assertEqual(self.number(stock), 70 + 1 + 3 + 9)
        stock = ((70, 71, 72, 60), ((0, 1, 1), (0, 2, 3), (1, 0, 1), (2, 1, 3), (2, 3, 9), (3, 0, 9)))
        self.assertEqual(self.number(stock), 60 + 9 + 1 + 3)

    def test_two_rings_and_one_of_both(self):
        rings = [(0, 1, 2, 3, 4, 5), (6, 7, 8, 9, 10, 11)]
        stock = with_rings(((100,) * 12, ()), rings, 1)
        self.assertEqual(self.number(stock), 2 * (100 + 5))
        stock = (stock[0], tuple(sorted(stock[1] + ((2, 9, 40), (10, 4, 30)))))
        self.assertEqual(self.number(stock), 100 + 5 + 30 + 5)

    def test_all_sizes_alike(self):
        for makes in range(13):
            pairs = [(a, b) for a in range(makes) for b in range(makes) if a != b]
            for whole, size, number in [
                (5, 5, 5 * makes), (5, 4, 4 * makes + (1 if makes else 0)), (5, 6, 5 * makes), (1, 1, makes),
                (GREAT, 1, GREAT + makes - 1 if makes else 0), (1, GREAT, makes),
            ]:
                stock = ((whole,) * makes, tuple((a, b, size) for a, b in pairs))
                self.assertEqual(self.number(stock), number)

    def test_rows_of_twelve(self):
        rising = tuple((make, make + 1, 2) for make in range(11))
        falling = tuple((make + 1, make, 2) for make in range(11))
        self.assertEqual(self.told(((50,) * 12, rising))[:2], (72, (None,) + tuple(range(11))))
        self.assertEqual(self.told(((50,) * 12, falling))[:2], (72, tuple(range(1, 12)) + (None,)))
        both = tuple(sorted(rising + falling))
        self.assertEqual(self.number(((50,) * 12, both)), 72)
        self.assertEqual(self.told(((50,) * 4 + (40,) + (50,) * 7, both))[:2], (62, (1, 2, 3, 4, None, *range(4, 11))))

    def test_few_makes_by_all_layings(self):
        chance = random.Random(30)
        for makes in range(6):
            for _ in range(4 if makes < 5 else 1):
                for stock in some_stocks(chance, makes):
                    least = min(room_laid(stock, laying) for laying in tried_layings(stock))
                    self.assertEqual(self.number(stock), least, stock)

    def test_few_makes_with_rings_by_all_layings(self):
        chance = random.Random(31)
        for _ in range(60):
            makes = chance.randint(2, 5)
            stock = some_stock(chance, makes, 5, 20, 60)
            rings = [tuple(chance.sample(range(makes), chance.randint(2, makes))) for _ in range(2)]
            stock = with_rings(with_rings(stock, rings[:1], 3), rings[1:], 1)
            least = min(room_laid(stock, laying) for laying in tried_layings(stock))
            self.assertEqual(self.number(stock), least, stock)

    def test_all_stocks_of_three_makes_and_small_sizes(self):
        pairs = [(a, b) for a in range(3) for b in range(3) if a != b]
        for chosen in range(3 ** 6):
            sizes = [chosen // 3 ** place % 3 for place in range(6)]
            changes = tuple((a, b, size) for (a, b), size in zip(pairs, sizes) if size)
            stock = ((2, 3, 4), changes)
            least = min(room_laid(stock, laying) for laying in tried_layings(stock))
            self.assertEqual(self.number(stock), least, stock)

    def test_some_to_twelve_makes(self):
        # The laying and the prices show by themselves that the number is the least.
        chance = random.Random(32)
        for makes in range(13):
            for _ in range(5):
                for stock in some_stocks(chance, makes):
                    self.told(stock)

    def test_some_to_twelve_makes_with_rings(self):
        chance = random.Random(33)
        for _ in range(200):
            makes = chance.randint(6, 12)
            stock = some_stock(chance, makes, chance.choice([1, 4, 10]), 40, 200)
            for size in (9, 4, 2, 1)[chance.randrange(4):]:
                stock = with_rings(stock, [tuple(chance.sample(range(makes), chance.randint(2, makes)))], size)
            self.told(stock)

    def test_great_sizes(self):
        chance = random.Random(34)
        for least, most in [(GREAT, GREAT), (GREAT - 3, GREAT), (1, GREAT)]:
            changes = [(a, b, chance.randint(least, most)) for a in range(12) for b in range(12) if a != b]
            for share in (1, 3, 12):
                chosen = tuple(change for change in changes if chance.randrange(12) < share)
                self.told((tuple(chance.randint(least, most) for _ in range(12)), chosen))

    def test_a_stock_told_of_things(self):
        chance = random.Random(35)
        thing = tuple(chance.randrange(1000) for _ in range(24))
        things = [thing]
        for _ in range(11):
            at = chance.randrange(24)
            thing = thing[:at] + (chance.randrange(1000),) + thing[at + 1:]
            things.append(thing)
        stock = stock_of(things)
        self.assertLess(self.number(stock), sum(stock[0]))
        self.assertLessEqual(self.number(stock), room_laid(stock, (None,) + tuple(range(11))))

    def test_a_row_of_thirty(self):
        row = tuple((make, make + 1, 3 + make) for make in range(29))
        self.assertEqual(self.number(((10,) * 30, row)), 10 + sum(min(10, 3 + make) for make in range(29)))

    def test_what_is_told_is_the_askers_own(self):
        stock = with_rings(((30, 31, 32), ()), [(0, 1, 2)], 2)
        for asked_of in (stock, ((), ()), ((4,), ())):
            first = least_room(asked_of)
            second = least_room(asked_of)
            self.assertIsNot(first[2], second[2])
            told = (second[0], second[1], list(second[2]))
            first[2].append("more")
            first[2].reverse()
            self.assertEqual(second, told)
            self.assertEqual(least_room(asked_of), told)

    def test_the_same_again_with_others_between(self):
        chance = random.Random(36)
        stocks = [some_stock(chance, 6, 7, 9, 30) for _ in range(20)]
        first = [least_room(stock) for stock in stocks]
        self.assertEqual([least_room(stock) for stock in stocks[::-1]], first[::-1])


if __name__ == "__main__":
    unittest.main()
