"""rowsums.py: promise [11], and what [1] and [2] say of it."""

import random
import unittest

from keepwhole.rows import row_reads, row_room
from keepwhole.rowsums import least_sum, shows_sum, sum_table
from tests.helper import (
    all_kept, asked, is_number, kept_reads, kept_sizes, nested, never_right, part_at, places, some_row, some_rows,
    spoiled, told, with_part)

GREAT = 10 ** 9

ROW = ((20, 22, 21, 25), (3, 4, 6))
ASKS = (1, 0, 2, 1)


def sum_of(row, asks, rate, kept):
    """The kept's sum, by the document's words."""
    return rate * sum(kept_sizes(row, kept)) + sum(ask * read for ask, read in zip(asks, kept_reads(row, kept)))


def from_on(row, asks, first):
    """The row of the makes from first on alone, and their asks."""
    return (row[0][first:], row[1][first:]), asks[first:]


def table_tried(row, asks, rate):
    """The table of a row of few makes, by all kept of each of its ends."""
    table = []
    for first in range(len(row[0])):
        end, own = from_on(row, asks, first)
        table.append(min(sum_of(end, own, rate, kept) for kept in all_kept(len(end[0]))))
    return (*table, 0)


def stretch_sum(row, asks, rate, first, end):
    """The sum of the makes from first up to end, only the first being whole."""
    part = (row[0][first:end], row[1][first:end - 1])
    return sum_of(part, asks[first:end], rate, (0,))


def table_by_stretches(row, asks, rate):
    table = {len(row[0]): 0}
    for first in reversed(range(len(row[0]))):
        table[first] = min(stretch_sum(row, asks, rate, first, end) + table[end] for end in list(table))
    return tuple(table[place] for place in range(len(row[0]) + 1))


def first_by_stretches(row, asks, rate):
    """The first kept of the least sum, found whole by whole from the front by the least of what is left."""
    table = table_by_stretches(row, asks, rate)
    many = len(row[0])
    kept = [0]
    while stretch_sum(row, asks, rate, kept[-1], many) != table[kept[-1]]:
        ends = [end for end in range(kept[-1] + 1, many)
                if stretch_sum(row, asks, rate, kept[-1], end) + table[end] == table[kept[-1]]]
        kept.append(ends[0])
    return tuple(kept)


def some_asks(chance, makes):
    """Asks of so many makes: none, all alike, few, many, and great ones."""
    found = [(0,) * makes, (1,) * makes, (GREAT,) * makes]
    for most in (1, 2, 9, GREAT):
        found.append(tuple(chance.randint(0, most) for _ in range(makes)))
    found.append(tuple(chance.choice([0, 0, 0, GREAT]) for _ in range(makes)))
    return found


RATES = (0, 1, 2, 7, 1000, GREAT)


def some_questions(chance, makes):
    """Rows of so many makes, with asks and rates."""
    return [(row, chance.choice(some_asks(chance, makes)), rate)
            for row in some_rows(chance, makes) for rate in RATES]


class LeastSum(unittest.TestCase):
    def least(self, row, asks, rate):
        """What is told: a pair whose kept has the sum."""
        answer = told(self, least_sum, row, asks, rate)
        self.assertEqual([type(answer), *map(type, answer)], [tuple, int, tuple])
        self.assertEqual({type(make) for make in answer[1]}, {int})
        reads = row_reads(row, answer[1])
        self.assertEqual(rate * row_room(row, answer[1]) + sum(a * r for a, r in zip(asks, reads)), answer[0])
        return answer

    def table(self, row, asks, rate):
        answer = told(self, sum_table, row, asks, rate)
        self.assertIs(type(answer), tuple)
        self.assertEqual({type(number) for number in answer}, {int})
        return answer

    def test_one_make(self):
        for whole in (1, 7, GREAT):
            for ask in (0, 1, 5, GREAT):
                for rate in RATES:
                    number = (rate + ask) * whole
                    self.assertEqual(self.least(((whole,), ()), (ask,), rate), (number, (0,)))
                    self.assertEqual(self.table(((whole,), ()), (ask,), rate), (number, 0))

    def test_known(self):
        # Room alone, reads alone, and both.
        self.assertEqual(self.least(ROW, (0, 0, 0, 0), 1), (33, (0,)))
        self.assertEqual(self.table(ROW, (0, 0, 0, 0), 1), (33, 32, 27, 25, 0))
        self.assertEqual(self.least(ROW, (1, 1, 1, 1), 0), (88, (0, 1, 2, 3)))
        self.assertEqual(self.table(ROW, (1, 1, 1, 1), 0), (88, 68, 46, 25, 0))
        self.assertEqual(self.least(ROW, (0, 0, 1, 0), 0), (21, (0, 1, 2)))
        self.assertEqual(self.least(ROW, (0, 0, 0, 1), 0), (25, (0, 1, 2, 3)))
        self.assertEqual(self.least(ROW, (5, 5, 5, 5), 1), (505, (0, 2)))

    def by_all(self, row, asks, rate):
        """The least sum and the first kept that has it, by going through all kept."""
        found = [(sum_of(row, asks, rate, kept), kept) for kept in all_kept(len(row[0]))]
        number = min(one[0] for one in found)
        return [one for one in found if one[0] == number][0]

    def test_no_asks_and_no_rate(self):
        for makes in (1, 2, 5, 30):
            for row in some_rows(random.Random(110), makes):
                self.assertEqual(self.least(row, (0,) * makes, 0), (0, (0,)))
                self.assertEqual(self.table(row, (0,) * makes, 0), (0,) * (makes + 1))

    def test_equal_sums(self):
        # Steps as great as the wholes, only the room asked for: each kept has the sum.
        self.assertEqual(self.least(((3,) * 5, (3,) * 4), (0,) * 5, 2), (30, (0,)))
        # Only make 2 is asked for: all others may be whole or not.
        self.assertEqual(self.least(((5, 5, 5, 5, 5), (1,) * 4), (0, 0, 1, 0, 0), 0), (5, (0, 1, 2)))
        # To make 1 it goes by whole 5 or by 4 + 1.
        self.assertEqual(self.least(((4, 5), (1,)), (0, 1), 0), (5, (0,)))
        self.assertEqual(self.least(((4, 5), (1,)), (3, 1), 0), (17, (0,)))
        self.assertEqual(self.least(((4, 5, 9), (2, 4)), (0, 1, 1), 0), (14, (0, 1)))

    def test_few_by_all_kept(self):
        chance = random.Random(111)
        for makes in range(1, 7):
            for row, asks, rate in some_questions(chance, makes):
                self.assertEqual(self.least(row, asks, rate), self.by_all(row, asks, rate), (row, asks, rate))
                self.assertEqual(self.table(row, asks, rate), table_tried(row, asks, rate), (row, asks, rate))
                self.assertEqual(table_by_stretches(row, asks, rate), table_tried(row, asks, rate))
                self.assertEqual(first_by_stretches(row, asks, rate), self.by_all(row, asks, rate)[1])

    def test_few_with_many_equal_sums(self):
        chance = random.Random(112)
        several = 0
        for _ in range(300):
            makes = chance.randint(2, 7)
            row = some_row(chance, makes, 3, 2)
            asks = tuple(chance.randint(0, 1) for _ in range(makes))
            rate = chance.randint(0, 2)
            answer = self.by_all(row, asks, rate)
            several += sum(sum_of(row, asks, rate, kept) == answer[0] for kept in all_kept(makes)) > 1
            self.assertEqual(self.least(row, asks, rate), answer, (row, asks, rate))
        self.assertGreater(several, 100)

    def test_thirty(self):
        chance = random.Random(113)
        for row, asks, rate in chance.sample(some_questions(chance, 30), 40):
            table = self.table(row, asks, rate)
            self.assertEqual(table, table_by_stretches(row, asks, rate), (row, asks, rate))
            kept = first_by_stretches(row, asks, rate)
            self.assertEqual(self.least(row, asks, rate), (table[0], kept), (row, asks, rate))

    def test_thirty_great_ones(self):
        row = ((GREAT,) * 30, (GREAT,) * 29)
        whole = tuple(range(30))
        self.assertEqual(self.least(row, (GREAT,) * 30, GREAT), (60 * GREAT ** 3 // GREAT, whole))
        self.assertEqual(self.least(row, (0,) * 30, GREAT), (30 * GREAT ** 2, (0,)))
        self.assertEqual(self.table(row, (0,) * 30, GREAT), tuple(many * GREAT ** 2 for many in range(30, -1, -1)))

    def test_the_same_again_with_others_between(self):
        questions = some_questions(random.Random(114), 6)
        for ask in (least_sum, sum_table):
            first = [ask(*question) for question in questions]
            self.assertEqual([ask(*question) for question in questions[::-1]], first[::-1])


def is_sum_shown(row, asks, rate, number, kept, table):
    """Whether these show the least sum, each of the document's words asked one after another."""
    many = len(row[0])
    if type(table) is not tuple or len(table) != many + 1 or not all(map(is_number, table)) or table[-1] != 0:
        return False
    for first in range(many):
        ends = range(first + 1, many + 1)
        if table[first] != min(stretch_sum(row, asks, rate, first, end) + table[end] for end in ends):
            return False
    if type(kept) is not tuple or not all(map(is_number, kept)) or kept not in all_kept(many):
        return False
    return is_number(number) and number == sum_of(row, asks, rate, kept) and number == table[0]


class ShowsSum(unittest.TestCase):
    def told(self, question, number, kept, table):
        before = repr(question)
        told = asked(self, lambda three: shows_sum(*question, *three), (number, kept, table))
        self.assertEqual(repr(question), before)
        return told

    def right(self, question, number, kept, table):
        self.assertIs(self.told(question, number, kept, table), True, (question, number, kept, table))

    def wrong(self, question, number, kept, table):
        self.assertIs(self.told(question, number, kept, table), False, (question, number, kept, table))

    def shown(self, question):
        """The number, the kept and the table that are told."""
        return (*least_sum(*question), sum_table(*question))

    def setUp(self):
        self.question = (ROW, ASKS, 1)
        self.number, self.kept, self.table = self.shown(self.question)

    def test_what_is_told(self):
        chance = random.Random(115)
        for makes in [1, 2, 3, 5, 8, 30]:
            for question in chance.sample(some_questions(chance, makes), 25):
                self.right(question, *self.shown(question))

    def test_known(self):
        self.right((((7,), ()), (3,), 2), 35, (0,), (35, 0))
        self.right((((7,), ()), (0,), 0), 0, (0,), (0, 0))
        self.right((ROW, (0, 0, 0, 0), 1), 33, (0,), (33, 32, 27, 25, 0))
        self.right((ROW, (1, 1, 1, 1), 0), 88, (0, 1, 2, 3), (88, 68, 46, 25, 0))

    def test_each_kept_of_few_makes(self):
        chance = random.Random(116)
        right = [0, 0]
        for makes in range(1, 6):
            for row, asks, rate in some_questions(chance, makes):
                number, _, table = self.shown((row, asks, rate))
                for kept in all_kept(makes):
                    own = sum_of(row, asks, rate, kept)
                    right[own == number] += 1
                    self.assertIs(self.told((row, asks, rate), number, kept, table), own == number)
                    # Its own sum with it is shown only where it is the least.
                    self.assertIs(self.told((row, asks, rate), own, kept, table), own == number)
        self.assertGreater(min(right), 500, right)

    def test_numbers_otherwise(self):
        for other in (self.number + 1, self.number - 1, 0, -self.number, self.number + GREAT, None, str(self.number)):
            self.wrong(self.question, other, self.kept, self.table)
        for at, number in enumerate(self.table):
            for other in (number + 1, number - 1, -1, number + GREAT, None, str(number), (number,), [number]):
                self.wrong(self.question, self.number, self.kept, with_part(self.table, (at,), other))
        chance = random.Random(117)
        for question in chance.sample(some_questions(chance, 30), 5):
            number, kept, table = self.shown(question)
            for at in range(31):
                for more in (1, -1):
                    other = table[:at] + (table[at] + more,) + table[at + 1:]
                    self.wrong(question, number, kept, other)
                    self.wrong(question, other[0], kept, other)

    def test_a_table_that_ends_otherwise(self):
        """All numbers of the table, and a kept whose sum is as much greater: only its last number tells it."""
        question = (((4, 5), (3,)), (0, 0), 1)
        self.right(question, 7, (0,), (7, 5, 0))
        self.wrong(question, 9, (0, 1), (9, 7, 2))
        self.wrong(question, 7, (0,), (9, 7, 2))
        self.wrong(question, 9, (0, 1), (7, 5, 0))

    def test_a_table_not_the_least(self):
        # As if both were kept whole.
        self.wrong((((4, 5), (3,)), (0, 0), 1), 9, (0, 1), (9, 5, 0))
        # As if none but the first were.
        self.wrong((((4, 5), (8,)), (0, 0), 1), 12, (0,), (12, 5, 0))
        self.wrong((((4, 5), (8,)), (0, 0), 1), 9, (0, 1), (9, 4, 0))

    def test_kept_otherwise(self):
        for kept in all_kept(4):
            if kept != self.kept:
                self.wrong(self.question, self.number, kept, self.table)
        # Such have the sum by what stands in them, but aren't kept of the row.
        question = (ROW, (0, 0, 0, 0), 1)
        for kept in [
            (), (0, 0), (0, 4), (0, 9), (-1, 0), (0, -1), (4,), [0], (False,), (None,), ("0",), ((0,),), 0, None,
            (0, GREAT), (0, True, 1),
        ]:
            self.wrong(question, 33, kept, (33, 32, 27, 25, 0))
        question = (ROW, (1, 1, 1, 1), 0)
        self.right(question, 88, (0, 1, 2, 3), (88, 68, 46, 25, 0))
        for kept in [
            (1, 2, 3), (0, 2, 1, 3), (3, 2, 1, 0), (0, 1, 1, 2, 3), (0, 1, 2, 3, 4), (0, True, 2, 3), (False, 1, 2, 3),
            [0, 1, 2, 3], (0, 1, 2, 3, 3), (-1, 0, 1, 2, 3), (0, 1, 2, (3,)), (0, 1, 2, "3"), (0, 1, 2, 3, None),
        ]:
            self.wrong(question, 88, kept, (88, 68, 46, 25, 0))

    def test_true_for_one(self):
        question = (((1,), ()), (1,), 0)
        self.right(question, 1, (0,), (1, 0))
        for number, kept, table in [
            (True, (0,), (1, 0)), (1, (False,), (1, 0)), (1, (0,), (True, 0)), (1, (0,), (1, False)),
            (True, (0,), (True, False)),
        ]:
            self.wrong(question, number, kept, table)
        self.right((((1,), ()), (0,), 0), 0, (0,), (0, 0))
        for number, kept, table in [(False, (0,), (0, 0)), (0, (0,), (False, 0)), (0, (False,), (0, 0))]:
            self.wrong((((1,), ()), (0,), 0), number, kept, table)

    def test_lists_for_tuples(self):
        self.wrong(self.question, self.number, list(self.kept), self.table)
        self.wrong(self.question, self.number, self.kept, list(self.table))
        self.wrong(self.question, [self.number], self.kept, self.table)
        self.wrong(self.question, (self.number,), self.kept, self.table)
        self.wrong(self.question, self.number, list(self.kept), list(self.table))

    def test_parts_left_out_or_added(self):
        for at in range(len(self.table)):
            self.wrong(self.question, self.number, self.kept, self.table[:at] + self.table[at + 1:])
            for more in (0, 1, self.table[at], None):
                self.wrong(self.question, self.number, self.kept, self.table[:at] + (more,) + self.table[at:])
        for more in (0, self.number, None, ()):
            self.wrong(self.question, self.number, self.kept, self.table + (more,))
            self.wrong(self.question, self.number, self.kept + (more,), self.table)
        self.wrong(self.question, self.number, (), self.table)
        self.wrong(self.question, self.number, self.kept, ())
        self.wrong(self.question, self.number, self.table, self.kept)

    def test_of_another_question(self):
        for question in [
            (ROW, ASKS, 2), (ROW, (1, 0, 2, 2), 1), (ROW, (0, 0, 2, 1), 1), (((21, 22, 21, 25), ROW[1]), ASKS, 1),
            ((ROW[0], (3, 4, 7)), ASKS, 0),
        ]:
            self.assertNotEqual(self.shown(question)[0], self.number)
            self.wrong(question, self.number, self.kept, self.table)
            self.wrong(self.question, *self.shown(question))
            self.right(question, *self.shown(question))

    def test_of_anything_else(self):
        for thing in never_right() + [None, "sum", (), [], (0,) * 5, (0, 0), -1]:
            self.wrong(self.question, thing, self.kept, self.table)
            self.wrong(self.question, self.number, thing, self.table)
            self.wrong(self.question, self.number, self.kept, thing)
            self.wrong(self.question, thing, thing, thing)
            self.wrong(self.question, self.number, thing, thing)
        for table in spoiled(self.table):
            self.wrong(self.question, self.number, self.kept, table)

    def test_twenty_deep(self):
        for kinds in [(list,), (tuple,), (list, tuple), (tuple, list)]:
            for inner in (1, None, True, "a", (), [], self.kept, self.table):
                for deep in range(1, 20):
                    thing = nested(inner, deep, kinds)
                    self.wrong(self.question, thing, self.kept, self.table)
                    self.wrong(self.question, self.number, thing, self.table)
                    self.wrong(self.question, self.number, self.kept, thing)
                    self.wrong(self.question, self.number, (0, thing), self.table)
                    self.wrong(self.question, self.number, self.kept, with_part(self.table, (2,), thing))

    def test_spoilt_by_chance(self):
        chance = random.Random(118)
        right = 0
        for _ in range(2500):
            makes = chance.randint(1, 4)
            row = some_row(chance, makes, 3, 2)
            question = (row, tuple(chance.randint(0, 2) for _ in range(makes)), chance.randint(0, 2))
            three = self.shown(question)
            for _ in range(chance.randint(0, 2)):
                path = chance.choice(places(three))
                if not path:
                    continue
                part = part_at(three, path)
                others = [0, 1, 2, -1, True, False, None, "", (), [], (0,), (0, 1)]
                if type(part) is int:
                    others += [part + 1, part - 1, bool(part)] * 4
                elif isinstance(part, (list, tuple)):
                    others += [part[1:], part[:-1], part + part[-1:], part[::-1], list(part)] * 2
                three = with_part(three, path, chance.choice(others))
            by_words = is_sum_shown(*question, *three)
            right += by_words
            self.assertIs(self.told(question, *three), by_words, (question, three))
        self.assertTrue(700 < right < 1800, right)

    def test_the_same_again_with_others_between(self):
        other = (ROW, (1, 1, 1, 1), 0)
        shown = (self.number, self.kept, self.table)
        told_of = [shows_sum(*question, *shown) for question in (self.question, other, self.question, other)]
        self.assertEqual(told_of, [True, False, True, False])


if __name__ == "__main__":
    unittest.main()
