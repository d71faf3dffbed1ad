"""rowbest.py: promise [10], and what [1] and [2] say of it."""

import random
import unittest

from keepwhole.rowbest import deep_for, not_beaten, reads_for, within_deep, within_reads
from keepwhole.rows import row_deep, row_reads, row_room
from tests.helper import all_kept, kept_deep, kept_reads, kept_sizes, some_row, some_rows, told

GREAT = 10 ** 9


def stretch(row, first, end):
    """What the makes from first up to end take where only the first of them is whole."""
    return row[0][first] + sum(row[1][first:end - 1])


def best_by_steps(row, allowed):
    """The least room and its first kept, the kept found whole by whole from the front, by the least of what is left.

    allowed(first, end) tells whether one may go on from first up to end without another whole.
    """
    makes = len(row[0])
    left = {makes: 0}
    for first in reversed(range(makes)):
        rooms = [stretch(row, first, end) + left[end] for end in range(first + 1, makes + 1)
                 if end in left and allowed(first, end)]
        if rooms:
            left[first] = min(rooms)
    if 0 not in left:
        return None
    kept = [0]
    takes = 0
    while not (allowed(kept[-1], makes) and takes + stretch(row, kept[-1], makes) == left[0]):
        ends = [end for end in range(kept[-1] + 1, makes) if end in left and allowed(kept[-1], end)
                and takes + stretch(row, kept[-1], end) + left[end] == left[0]]
        takes += stretch(row, kept[-1], ends[0])
        kept.append(ends[0])
    return (left[0], tuple(kept))


def deep_by_steps(row, most):
    return best_by_steps(row, lambda first, end: end - first - 1 <= most)


def reads_by_steps(row, most):
    return best_by_steps(row, lambda first, end: stretch(row, first, end) <= most)


def all_of(row):
    """For each kept of a row of few makes, rising: (room, deep, most to read, kept)."""
    return [(sum(kept_sizes(row, kept)), kept_deep(row, kept), max(kept_reads(row, kept)), kept)
            for kept in all_kept(len(row[0]))]


def first_least(found):
    """Of what all_of tells the pair (room, kept) of least room, the first one; None of none."""
    if not found:
        return None
    least = min(room for room, _, _, _ in found)
    return [(room, kept) for room, _, _, kept in found if room == least][0]


def few_rows(chance):
    rows = [row for makes in range(1, 8) for row in some_rows(chance, makes)]
    for _ in range(60):
        rows.append(some_row(chance, chance.randint(2, 7), chance.randint(2, 6), chance.randint(1, 4)))
    return rows


def thirty_rows(chance):
    return some_rows(chance, 30) + [some_row(chance, 30, *kind) for kind in [(30, 3), (90, 9), (6, 2), (5, 5), (2, 3)]]


class RowBest(unittest.TestCase):
    def kinds(self, answer, kinds):
        self.assertIs(type(answer), tuple)
        self.assertEqual([type(part) for part in answer], kinds)
        self.assertEqual({type(make) for make in answer[-1]}, {int})

    def pair(self, row, ask, most):
        """What is told for a bound: None, or a pair whose kept has the room."""
        answer = told(self, ask, row, most)
        if answer is not None:
            self.kinds(answer, [int, tuple])
            self.assertEqual(row_room(row, answer[1]), answer[0])
        return answer

    def three(self, row, ask, most):
        """What is told for a room: None, or three whose kept has the room, which is no more than the most."""
        answer = told(self, ask, row, most)
        if answer is not None:
            self.kinds(answer, [int, int, tuple])
            self.assertEqual(row_room(row, answer[2]), answer[1])
            self.assertLessEqual(answer[1], most)
        return answer

    def bounds(self, numbers):
        """0, each number just met and just missed, far too great ones, and none below 0."""
        near = {number + more for number in numbers for more in (-1, 0, 1)} | {0, 1, 10 ** 12, 10 ** 30}
        return sorted(number for number in near if number >= 0)


class WithinDeep(RowBest):
    def test_one_make(self):
        for whole in (1, GREAT):
            for most in (0, 1, GREAT):
                self.assertEqual(self.pair(((whole,), ()), within_deep, most), (whole, (0,)))

    def test_known(self):
        row = ((50, 60, 20, 80, 90), (1, 2, 3, 4))
        self.assertEqual(self.pair(row, within_deep, 0), (300, (0, 1, 2, 3, 4)))
        self.assertEqual(self.pair(row, within_deep, 1), (155, (0, 2, 3)))
        self.assertEqual(self.pair(row, within_deep, 2), (78, (0, 2)))
        self.assertEqual(self.pair(row, within_deep, 3), (78, (0, 2)))
        self.assertEqual(self.pair(row, within_deep, 4), (60, (0,)))
        self.assertEqual(self.pair(row, within_deep, GREAT), (60, (0,)))

    def test_equal_rooms(self):
        # All take 1: any kept that is allowed has the same room; ends come ahead of what goes on.
        row = ((1,) * 5, (1,) * 4)
        self.assertEqual(self.pair(row, within_deep, 0), (5, (0, 1, 2, 3, 4)))
        self.assertEqual(self.pair(row, within_deep, 1), (5, (0, 1, 2, 3)))
        self.assertEqual(self.pair(row, within_deep, 2), (5, (0, 1, 2)))
        self.assertEqual(self.pair(row, within_deep, 3), (5, (0, 1)))
        self.assertEqual(self.pair(row, within_deep, 4), (5, (0,)))
        self.assertEqual(self.pair(((9, 3, 3), (3, 3)), within_deep, 1), (15, (0, 1)))
        self.assertEqual(self.pair(((9, 3, 3), (3, 3)), within_deep, 2), (15, (0,)))

    def test_few_by_all_kept(self):
        for row in few_rows(random.Random(90)):
            found = all_of(row)
            for most in [*range(len(row[0]) + 2), GREAT]:
                fitting = [one for one in found if one[1] <= most]
                self.assertEqual(self.pair(row, within_deep, most), first_least(fitting), (row, most))
                self.assertEqual(deep_by_steps(row, most), first_least(fitting))

    def test_thirty(self):
        for row in thirty_rows(random.Random(91)):
            for most in (0, 1, 2, 5, 14, 28, 29, 30, GREAT):
                answer = self.pair(row, within_deep, most)
                self.assertEqual(answer, deep_by_steps(row, most), (row, most))
                self.assertLessEqual(row_deep(row, answer[1]), most)
            self.assertEqual(within_deep(row, 0), (sum(row[0]), tuple(range(30))))


class WithinReads(RowBest):
    def test_one_make(self):
        for whole in (1, 7, GREAT):
            self.assertIsNone(self.pair(((whole,), ()), within_reads, 0))
            self.assertIsNone(self.pair(((whole,), ()), within_reads, whole - 1))
            for most in (whole, whole + 1, 10 ** 12):
                self.assertEqual(self.pair(((whole,), ()), within_reads, most), (whole, (0,)))

    def test_known(self):
        row = ((50, 60, 70, 80, 90), (1, 2, 3, 4))
        for most, answer in [(60, (60, (0,))), (10 ** 12, (60, (0,))), (59, None), (50, None), (49, None), (0, None)]:
            self.assertEqual(self.pair(row, within_reads, most), answer)
        row = ((50, 20, 20, 20, 20), (10, 10, 10, 10))
        # From 60 on other kept take 100 too: the first one stays.
        for most, answer in [
            (49, None), (50, (100, (0, 1))), (59, (100, (0, 1))), (60, (100, (0, 1))), (89, (100, (0, 1))),
            (90, (90, (0,))), (91, (90, (0,))),
        ]:
            self.assertEqual(self.pair(row, within_reads, most), answer)

    def test_a_whole_that_is_too_great_is_never_kept_whole(self):
        row = ((5, 100, 6, 7), (2, 3, 4))
        for most, answer in [
            (4, None), (6, None), (7, (20, (0, 2, 3))), (9, (20, (0, 2, 3))), (10, (17, (0, 2))), (13, (17, (0, 2))),
            (14, (14, (0,))),
        ]:
            self.assertEqual(self.pair(row, within_reads, most), answer)
        # The first make alone is too great.
        self.assertIsNone(self.pair(((9, 1, 1), (1, 1)), within_reads, 8))
        self.assertEqual(self.pair(((9, 1, 1), (1, 1)), within_reads, 9), (11, (0, 1)))
        # The last one alone: neither whole nor behind the others.
        self.assertIsNone(self.pair(((1, 1, 9), (1, 9)), within_reads, 8))
        self.assertIsNone(self.pair(((1, 1, 11), (1, 8)), within_reads, 8))
        self.assertEqual(self.pair(((1, 1, 11), (1, 8)), within_reads, 9), (10, (0, 1)))

    def test_few_by_all_kept(self):
        nothing = 0
        for row in few_rows(random.Random(92)):
            found = all_of(row)
            for most in self.bounds({one[2] for one in found}):
                fitting = [one for one in found if one[2] <= most]
                nothing += not fitting
                self.assertEqual(self.pair(row, within_reads, most), first_least(fitting), (row, most))
                self.assertEqual(reads_by_steps(row, most), first_least(fitting))
        self.assertGreater(nothing, 100)

    def test_thirty(self):
        chance = random.Random(93)
        for row in thirty_rows(chance):
            reads = sorted({stretch(row, first, end) for first in range(30) for end in range(first + 1, 31)})
            some = chance.sample(reads, min(9, len(reads)))
            for most in [0, row[0][0] - 1, row[0][0], max(row[0]), reads[-1], 10 ** 12, *some]:
                answer = self.pair(row, within_reads, most)
                self.assertEqual(answer, reads_by_steps(row, most), (row, most))
                if answer is not None:
                    self.assertLessEqual(max(row_reads(row, answer[1])), most)


class DeepFor(RowBest):
    def test_one_make(self):
        for whole in (1, GREAT):
            self.assertIsNone(self.three(((whole,), ()), deep_for, 0))
            self.assertIsNone(self.three(((whole,), ()), deep_for, whole - 1))
            self.assertEqual(self.three(((whole,), ()), deep_for, whole), (0, whole, (0,)))
            self.assertEqual(self.three(((whole,), ()), deep_for, 10 ** 12), (0, whole, (0,)))

    def test_known(self):
        row = ((50, 60, 20, 80, 90), (1, 2, 3, 4))
        for most, answer in [
            (300, (0, 300, (0, 1, 2, 3, 4))), (10 ** 12, (0, 300, (0, 1, 2, 3, 4))), (299, (1, 155, (0, 2, 3))),
            (155, (1, 155, (0, 2, 3))), (154, (2, 78, (0, 2))), (78, (2, 78, (0, 2))), (77, (4, 60, (0,))),
            (60, (4, 60, (0,))), (59, None), (0, None),
        ]:
            self.assertEqual(self.three(row, deep_for, most), answer)

    def test_few_by_all_kept(self):
        for row in few_rows(random.Random(94)):
            found = all_of(row)
            for most in self.bounds({one[0] for one in found} if len(found) < 20 else {min(found)[0], max(found)[0]}):
                deeps = [one[1] for one in found if one[0] <= most]
                answer = None
                if deeps:
                    answer = (min(deeps), *first_least([one for one in found if one[1] <= min(deeps)]))
                self.assertEqual(self.three(row, deep_for, most), answer, (row, most))

    def test_thirty(self):
        chance = random.Random(95)
        for row in thirty_rows(chance):
            rooms = [deep_by_steps(row, most)[0] for most in range(30)]
            for most in self.bounds(chance.sample(rooms, 3) + [rooms[0], rooms[-1]]):
                fitting = [at for at, room in enumerate(rooms) if room <= most]
                answer = (fitting[0], *deep_by_steps(row, fitting[0])) if fitting else None
                self.assertEqual(self.three(row, deep_for, most), answer, (row, most))
                if answer is not None:
                    self.assertEqual(row_deep(row, answer[2]), answer[0])


class ReadsFor(RowBest):
    def test_one_make(self):
        for whole in (1, GREAT):
            self.assertIsNone(self.three(((whole,), ()), reads_for, 0))
            self.assertIsNone(self.three(((whole,), ()), reads_for, whole - 1))
            self.assertEqual(self.three(((whole,), ()), reads_for, whole), (whole, whole, (0,)))
            self.assertEqual(self.three(((whole,), ()), reads_for, 10 ** 12), (whole, whole, (0,)))

    def test_known(self):
        row = ((5, 100, 6, 7), (2, 3, 4))
        for most, answer in [
            (13, None), (14, (14, 14, (0,))), (16, (14, 14, (0,))), (17, (10, 17, (0, 2))), (19, (10, 17, (0, 2))),
            (20, (7, 20, (0, 2, 3))), (10 ** 12, (7, 20, (0, 2, 3))), (0, None),
        ]:
            self.assertEqual(self.three(row, reads_for, most), answer)

    def test_few_by_all_kept(self):
        for row in few_rows(random.Random(96)):
            found = all_of(row)
            for most in self.bounds({one[0] for one in found} if len(found) < 20 else {min(found)[0], max(found)[0]}):
                reads = [one[2] for one in found if one[0] <= most]
                answer = None
                if reads:
                    answer = (min(reads), *first_least([one for one in found if one[2] <= min(reads)]))
                self.assertEqual(self.three(row, reads_for, most), answer, (row, most))

    def test_thirty(self):
        chance = random.Random(97)
        for row in thirty_rows(chance):
            bounds = sorted({stretch(row, first, end) for first in range(30) for end in range(first + 1, 31)})
            least = reads_by_steps(row, bounds[-1])[0]
            for most in [least - 1, least, least + 1, sum(row[0]), (least + sum(row[0])) // 2, 10 ** 12, 0]:
                answer = self.three(row, reads_for, most)
                if most < least:
                    self.assertIsNone(answer)
                    continue
                self.assertEqual(answer[1:], reads_by_steps(row, answer[0]), (row, most))
                self.assertEqual(max(row_reads(row, answer[2])), answer[0])
                # By the next lesser bound there is none, or it takes too much.
                lesser = [bound for bound in bounds if bound < answer[0]]
                less = reads_by_steps(row, lesser[-1]) if lesser else None
                self.assertTrue(less is None or less[0] > most, (row, most))


class NotBeaten(RowBest):
    def pairs(self, row):
        answer = told(self, not_beaten, row)
        self.assertIs(type(answer), list)
        for pair in answer:
            self.assertEqual([type(pair), *map(type, pair)], [tuple, int, int])
        self.assertEqual(answer, sorted(answer))
        return answer

    def test_known(self):
        self.assertEqual(self.pairs(((7,), ())), [(0, 7)])
        self.assertEqual(self.pairs(((50, 60, 20, 80, 90), (1, 2, 3, 4))), [(0, 300), (1, 155), (2, 78), (4, 60)])
        # The steps take as much as the wholes, or more: all whole beats every other.
        self.assertEqual(self.pairs(((3,) * 6, (3,) * 5)), [(0, 18)])
        self.assertEqual(self.pairs(((3,) * 6, (4,) * 5)), [(0, 18)])
        self.assertEqual(self.pairs(((3,) * 6, (2,) * 5)), [(0, 18), (1, 15), (2, 14), (5, 13)])

    def test_few_by_all_kept(self):
        for row in few_rows(random.Random(98)):
            had = {(deep, room) for room, deep, _, _ in all_of(row)}
            pairs = []
            for deep, room in had:
                lesser = [one for one in had if one[0] <= deep and one[1] <= room and one != (deep, room)]
                if not lesser:
                    pairs.append((deep, room))
            self.assertEqual(self.pairs(row), sorted(pairs), row)

    def test_thirty(self):
        for row in thirty_rows(random.Random(99)):
            rooms = [deep_by_steps(row, most)[0] for most in range(30)]
            pairs = [(at, room) for at, room in enumerate(rooms) if room not in rooms[:at]]
            self.assertEqual(self.pairs(row), pairs, row)

    def test_what_is_told_is_the_askers_own(self):
        row = ((3,) * 6, (2,) * 5)
        first = not_beaten(row)
        second = not_beaten(row)
        self.assertIsNot(first, second)
        first.clear()
        self.assertEqual(second, [(0, 18), (1, 15), (2, 14), (5, 13)])
        self.assertEqual(not_beaten(row), second)


class Again(RowBest):
    def test_the_same_again_with_others_between(self):
        rows = few_rows(random.Random(100))
        for ask in (within_deep, within_reads, deep_for, reads_for):
            first = [ask(row, most) for row in rows for most in (1, 9, 40)]
            again = [ask(row, most) for row in rows[::-1] for most in (40, 9, 1)]
            self.assertEqual(again, first[::-1])
        first = [not_beaten(row) for row in rows]
        self.assertEqual([not_beaten(row) for row in rows[::-1]], first[::-1])


if __name__ == "__main__":
    unittest.main()
