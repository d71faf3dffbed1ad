"""rows.py: promise [9], and what [1] and [2] say of it."""

import random
import unittest

from keepwhole.layings import deep, is_laying, is_stock, reads, room, stock_of, way
from keepwhole.rows import row_deep, row_laying, row_reads, row_room, row_stock
from tests.helper import all_kept, kept_deep, kept_reads, kept_sizes, some_rows, told

GREAT = 10 ** 9


def some_kept(chance, makes):
    """Of the kept of so many makes: all whole, only the first whole, and others by chance."""
    found = [tuple(range(makes)), (0,), tuple(range(0, makes, 2)), tuple(range(0, makes, 3))]
    for share in (1, 3, 5, 7, 9):
        found.append((0,) + tuple(make for make in range(1, makes) if chance.randrange(10) < share))
    return found


class Rows(unittest.TestCase):
    def looked_at(self, row, kept):
        """All that is told of a row and its kept, against the plain words and against layings.py."""
        stock = told(self, row_stock, row)
        self.assertIs(is_stock(stock), True, row)
        self.assertEqual(stock, (row[0], tuple((make - 1, make, row[1][make - 1]) for make in range(1, len(row[0])))))
        laying = told(self, row_laying, row, kept)
        self.assertIs(is_laying(stock, laying), True, (row, kept))
        self.assertEqual(laying, tuple(None if make in kept else make - 1 for make in range(len(row[0]))))
        takes = told(self, row_room, row, kept)
        self.assertIs(type(takes), int)
        self.assertEqual((takes, takes), (room(stock, laying), sum(kept_sizes(row, kept))))
        read = told(self, row_reads, row, kept)
        self.assertIs(type(read), tuple)
        self.assertLessEqual({type(number) for number in read}, {int})
        self.assertEqual((read, read), (reads(stock, laying), kept_reads(row, kept)))
        deepest = told(self, row_deep, row, kept)
        self.assertIs(type(deepest), int)
        self.assertEqual(deepest, max(deep(laying, make) for make in range(len(laying))))
        self.assertEqual(deepest, kept_deep(row, kept))
        return stock, laying, takes, read, deepest

    def test_one_make(self):
        for whole in (1, 7, GREAT):
            told_of = (((whole,), ()), (None,), whole, (whole,), 0)
            self.assertEqual(self.looked_at(((whole,), ()), (0,)), told_of)

    def test_two_makes(self):
        stock = ((5, 9), ((0, 1, 3),))
        self.assertEqual(self.looked_at(((5, 9), (3,)), (0,)), (stock, (None, 0), 8, (5, 8), 1))
        self.assertEqual(self.looked_at(((5, 9), (3,)), (0, 1)), (stock, (None, None), 14, (5, 9), 0))

    def test_known(self):
        row = ((50, 60, 70, 80, 90), (1, 2, 3, 4))
        stock = (row[0], ((0, 1, 1), (1, 2, 2), (2, 3, 3), (3, 4, 4)))
        for kept, laying, takes, read, deepest in [
            ((0,), (None, 0, 1, 2, 3), 60, (50, 51, 53, 56, 60), 4),
            ((0, 1, 2, 3, 4), (None,) * 5, 350, (50, 60, 70, 80, 90), 0),
            ((0, 2), (None, 0, None, 2, 3), 128, (50, 51, 70, 73, 77), 2),
            ((0, 3), (None, 0, 1, None, 3), 137, (50, 51, 53, 80, 84), 2),
            ((0, 4), (None, 0, 1, 2, None), 146, (50, 51, 53, 56, 90), 3),
            ((0, 1), (None, None, 1, 2, 3), 119, (50, 60, 62, 65, 69), 3),
            ((0, 2, 4), (None, 0, None, 2, None), 214, (50, 51, 70, 73, 90), 1),
        ]:
            self.assertEqual(self.looked_at(row, kept), (stock, laying, takes, read, deepest))

    def test_all_kept_of_few_makes(self):
        chance = random.Random(80)
        for makes in range(1, 6):
            for row in some_rows(chance, makes):
                for kept in all_kept(makes):
                    self.looked_at(row, kept)

    def test_rows_to_thirty(self):
        chance = random.Random(81)
        for makes in range(1, 31):
            for row in chance.sample(some_rows(chance, makes), 3):
                for kept in some_kept(chance, makes):
                    self.looked_at(row, kept)

    def test_thirty_great_ones(self):
        row = ((GREAT,) * 30, (GREAT,) * 29)
        self.assertEqual(self.looked_at(row, (0,))[2:4], (30 * GREAT, tuple(GREAT * at for at in range(1, 31))))
        self.assertEqual(self.looked_at(row, tuple(range(30)))[2:], (30 * GREAT, (GREAT,) * 30, 0))
        self.assertEqual(self.looked_at(row, (0, 15))[4], 14)
        self.assertEqual(self.looked_at(row, (0, 29))[4], 28)
        self.assertEqual(self.looked_at(row, (0, 1))[4], 28)

    def test_each_make_is_come_to_by_its_way(self):
        row = ((3,) * 12, (1,) * 11)
        for kept in [(0,), (0, 5), (0, 3, 4, 11)]:
            laying = row_laying(row, kept)
            for make in range(12):
                whole = max(one for one in kept if one <= make)
                self.assertEqual(way(laying, make), tuple(range(whole, make + 1)))

    def test_a_row_of_things(self):
        things = [(1, 2, 3), (1, 2, 3, 4), (1, 9, 3, 4), (9, 3, 4, 4, 4)]
        stock = stock_of(things)
        sizes = {(a, b): size for a, b, size in stock[1]}
        row = (stock[0], tuple(sizes[make, make + 1] for make in range(3)))
        for kept in all_kept(4):
            _, laying, takes, read, _ = self.looked_at(row, kept)
            self.assertEqual((takes, read), (room(stock, laying), reads(stock, laying)))

    def test_the_same_again_with_others_between(self):
        chance = random.Random(82)
        asked_of = [(row, kept) for row in some_rows(chance, 9) for kept in some_kept(chance, 9)]
        for ask in (row_laying, row_room, row_reads, row_deep):
            first = [ask(row, kept) for row, kept in asked_of]
            self.assertEqual([ask(row, kept) for row, kept in asked_of[::-1]], first[::-1])


if __name__ == "__main__":
    unittest.main()
