"""growing.py: promises [12] and [13], and what [1] and [2] say of them."""

import random
import unittest

from keepwhole.errors import KeepError, NoMake
from keepwhole.growing import Growing, Newest
from keepwhole.layings import deep, is_laying, reads, resting, room, way
from keepwhole.rowbest import within_deep
from keepwhole.rows import row_laying, row_reads, row_room
from tests.helper import all_come_to, all_kept, deepest_laid, kept_reads, kept_sizes, some_rows

GREAT = 10 ** 9


def whole_by_words(row, make, kept):
    """Whether a make of the row is kept whole, those ahead of it kept as told."""
    if make == 0:
        return True
    return sum(row[1][kept[-1]:make]) > row[0][make]


class GrowingRows(unittest.TestCase):
    def grow(self, row):
        """A Growing that has grown to the row, all that it tells looked at behind each make."""
        growing = Growing()
        kept = []
        for make, whole in enumerate(row[0]):
            word = growing.grown(whole, row[1][make - 1] if make else 0)
            self.assertIs(type(word), str)
            self.assertEqual(word, "whole" if whole_by_words(row, make, kept) else "change", (row, make))
            kept += [make] if word == "whole" else []
            for _ in range(2):
                now = growing.row_now()
                self.assertEqual([type(now), *map(type, now)], [tuple, tuple, tuple])
                self.assertEqual(now, (row[0][:make + 1], row[1][:make]))
                self.assertIs(type(growing.kept_now()), tuple)
                self.assertEqual(growing.kept_now(), tuple(kept))
        return growing

    def test_without_makes(self):
        growing = Growing()
        for _ in range(3):
            self.assertEqual(growing.kept_now(), ())
            self.assertIs(type(growing.kept_now()), tuple)
            with self.assertRaises(NoMake) as caught:
                growing.row_now()
            self.assertIs(type(caught.exception), NoMake)
            self.assertIsInstance(caught.exception, KeepError)
        # The refusal changes nothing.
        self.assertEqual(growing.grown(5, 1), "whole")
        self.assertEqual((growing.row_now(), growing.kept_now()), (((5,), ()), (0,)))

    def test_the_first_one(self):
        for whole in (1, 5, GREAT):
            for step in (0, 1, 7, GREAT, -1, None, "step", (1,), [2]):
                growing = Growing()
                self.assertEqual(growing.grown(whole, step), "whole")
                self.assertEqual((growing.row_now(), growing.kept_now()), (((whole,), ()), (0,)))
                # The first step isn't counted for the makes behind it either.
                self.assertEqual(growing.grown(4, 4), "change")
                self.assertEqual((growing.row_now(), growing.kept_now()), (((whole, 4), (4,)), (0,)))

    def test_at_the_edge(self):
        for whole, steps, words in [
            (10, [10], ["change"]), (10, [11], ["whole"]), (10, [9], ["change"]), (1, [1], ["change"]),
            (10, [5, 5], ["change"] * 2), (10, [5, 6], ["change", "whole"]),
            (10, [9, 1, 1], ["change", "change", "whole"]),
            (10, [1] * 11, ["change"] * 10 + ["whole"]), (GREAT, [GREAT, 1], ["change", "whole"]),
            (GREAT, [GREAT - 1, 1, 1], ["change", "change", "whole"]), (1, [2, 2, 2], ["whole"] * 3),
            (1, [1, 1, 1, 1], ["change", "whole", "change", "whole"]),
        ]:
            growing = Growing()
            growing.grown(3, 0)
            self.assertEqual([growing.grown(whole, step) for step in steps], words)

    def test_counted_from_the_last_whole(self):
        # The step of a make that is kept whole isn't counted for those behind it.
        growing = Growing()
        told = [growing.grown(whole, step) for whole, step in [(8, 0), (8, 5), (8, 4), (8, 5), (8, 3), (8, 1), (9, 8)]]
        self.assertEqual(told, ["whole", "change", "whole", "change", "change", "whole", "change"])
        self.assertEqual(growing.kept_now(), (0, 2, 5))
        self.assertEqual(growing.row_now(), ((8, 8, 8, 8, 8, 8, 9), (5, 4, 5, 3, 1, 8)))

    def test_its_own_whole_size_is_looked_at(self):
        # Not that of the first, nor of the last whole one.
        growing = Growing()
        told = [growing.grown(whole, step) for whole, step in [(100, 0), (5, 6), (100, 6), (5, 6), (1, 1), (50, 43)]]
        self.assertEqual(told, ["whole", "whole", "change", "whole", "change", "change"])

    def test_some_rows(self):
        chance = random.Random(120)
        for makes in [*range(1, 12), 30, 60]:
            for row in some_rows(chance, makes):
                self.grow(row)

    def test_room_and_reads_of_few(self):
        """At most twice the room of any kept; none with more to read than the whole it comes from and its own."""
        chance = random.Random(121)
        for makes in range(1, 8):
            for row in some_rows(chance, makes) + some_rows(chance, makes):
                kept = self.grow(row).kept_now()
                takes = sum(kept_sizes(row, kept))
                self.assertLessEqual(takes, 2 * min(sum(kept_sizes(row, other)) for other in all_kept(makes)))
                for make, read in enumerate(kept_reads(row, kept)):
                    whole = max(one for one in kept if one <= make)
                    self.assertLessEqual(read, row[0][whole] + row[0][make])

    def test_room_and_reads_of_sixty(self):
        chance = random.Random(122)
        rows = some_rows(chance, 60) + some_rows(chance, 60)
        rows.append(((100,) * 60, (51,) * 59))
        rows.append(((100,) + (51,) * 59, (50,) * 59))
        wholes = tuple(chance.choice([1, 1000]) for _ in range(60))
        rows.append((wholes, tuple(chance.choice([1, 500]) for _ in range(59))))
        for row in rows:
            growing = self.grow(row)
            # What was told is handed in again.
            row_told, kept = growing.row_now(), growing.kept_now()
            self.assertLessEqual(row_room(row_told, kept), 2 * within_deep(row_told, 59)[0])
            laying = row_laying(row_told, kept)
            for make, read in enumerate(row_reads(row_told, kept)):
                self.assertLessEqual(read, row[0][way(laying, make)[0]] + row[0][make])

    def test_nothing_is_laid_anew(self):
        growing = Growing()
        told = []
        for row in [some_rows(random.Random(123), 60)[6]]:
            for make, whole in enumerate(row[0]):
                growing.grown(whole, row[1][make - 1])
                told.append((growing.row_now(), growing.kept_now()))
        for ahead, behind in zip(told, told[1:]):
            self.assertEqual(behind[1][:len(ahead[1])], ahead[1])
            self.assertEqual((behind[0][0][:-1], behind[0][1][:len(ahead[0][1])]), ahead[0])

    def test_two_by_turns(self):
        one, other = Growing(), Growing()
        one.grown(8, 0)
        self.assertEqual(other.kept_now(), ())
        self.assertRaises(NoMake, other.row_now)
        other.grown(3, 0)
        self.assertEqual([one.grown(8, 5), other.grown(3, 2), one.grown(8, 5), other.grown(3, 1)],
                         ["change", "change", "whole", "change"])
        self.assertEqual((one.row_now(), one.kept_now()), (((8, 8, 8), (5, 5)), (0, 2)))
        self.assertEqual((other.row_now(), other.kept_now()), (((3, 3, 3), (2, 1)), (0,)))


class NewestMakes(unittest.TestCase):
    def grow(self, most, wholes, backs):
        """A Newest that has grown to these makes, all that it tells looked at behind each make."""
        newest = Newest(most)
        laying = []
        for make, whole in enumerate(wholes):
            told = newest.grown(whole, backs[make])
            self.assertIs(type(told), tuple)
            trial = laying[:-1] + [make, None] if make else [None]
            if make and deepest_laid(tuple(trial)) <= most:
                self.assertEqual(told, (make - 1,))
                self.assertIs(type(told[0]), int)
                laying = trial
            else:
                self.assertEqual(told, ())
                laying.append(None)
            self.looked_at(newest, most, tuple(laying), wholes, backs)
        return newest

    def looked_at(self, newest, most, laying, wholes, backs):
        many = len(laying)
        for _ in range(2):
            self.assertIs(type(newest.laying_now()), tuple)
            self.assertEqual(newest.laying_now(), laying)
            self.assertIs(type(newest.room_now()), int)
            sizes = [wholes[make] if on is None else backs[make + 1] for make, on in enumerate(laying)]
            self.assertEqual(newest.room_now(), sum(sizes))
        self.assertEqual(laying.count(None), 1 + (many - 1) // (most + 1))
        self.assertIsNone(laying[-1])
        self.assertTrue(all_come_to(laying))
        self.assertTrue(all(on in (None, make + 1) for make, on in enumerate(laying)))
        self.assertLessEqual(deepest_laid(laying), most)

    def test_without_makes(self):
        for most in (0, 1, 5, GREAT):
            newest = Newest(most)
            for _ in range(2):
                self.assertEqual((newest.laying_now(), newest.room_now()), ((), 0))
                self.assertEqual((type(newest.laying_now()), type(newest.room_now())), (tuple, int))

    def test_the_first_one(self):
        for most in (0, 1, 5):
            for back in (0, 1, GREAT, -3, None, "back", (1,), [2]):
                newest = Newest(most)
                self.assertEqual(newest.grown(7, back), ())
                self.assertEqual((newest.laying_now(), newest.room_now()), ((None,), 7))

    def test_known(self):
        newest = Newest(2)
        told = []
        for whole, back in [(10, 0), (11, 3), (12, 4), (13, 5), (14, 6), (15, 7), (16, 8)]:
            told.append((newest.grown(whole, back), newest.laying_now(), newest.room_now()))
        self.assertEqual(told, [
            ((), (None,), 10), ((0,), (1, None), 14), ((1,), (1, 2, None), 19), ((), (1, 2, None, None), 32),
            ((3,), (1, 2, None, 4, None), 39), ((4,), (1, 2, None, 4, 5, None), 47),
            ((), (1, 2, None, 4, 5, None, None), 63),
        ])

    def test_most_of_none(self):
        newest = self.grow(0, [5] * 10, [1] * 10)
        self.assertEqual(newest.laying_now(), (None,) * 10)
        self.assertEqual(newest.room_now(), 50)

    def test_a_back_greater_than_the_whole(self):
        # It is laid anew so, whatever it takes.
        newest = Newest(1)
        newest.grown(5, 0)
        self.assertEqual(newest.grown(5, 100), (0,))
        self.assertEqual((newest.laying_now(), newest.room_now()), ((1, None), 105))

    def test_some(self):
        chance = random.Random(130)
        for most in (0, 1, 2, 3, 5, 11, 29, 58, 59, 60, GREAT):
            for makes in (1, 2, 3, 7, 12, 30, 60):
                for size in (1, 9, GREAT):
                    wholes = [chance.randint(1, size) for _ in range(makes)]
                    self.grow(most, wholes, [chance.randint(1, size) for _ in range(makes)])

    def test_what_was_told_may_be_handed_in_again(self):
        chance = random.Random(131)
        for most in (0, 1, 4, 30):
            wholes = tuple(chance.randint(1, 99) for _ in range(30))
            backs = tuple(chance.randint(1, 99) for _ in range(30))
            newest = self.grow(most, wholes, backs)
            laying = newest.laying_now()
            stock = (wholes, tuple((make, make - 1, backs[make]) for make in range(1, 30)))
            self.assertIs(is_laying(stock, laying), True)
            self.assertEqual(newest.room_now(), room(stock, laying))
            self.assertEqual(max(deep(laying, make) for make in range(30)), min(most, 29))
            self.assertEqual(reads(stock, laying)[-1], wholes[-1])
            self.assertEqual(resting(laying, 29), list(range(29 - 29 % (most + 1), 29)))

    def test_one_laid_anew_at_a_time(self):
        newest = Newest(3)
        ahead = ()
        for make in range(60):
            told = newest.grown(9, 2)
            now = newest.laying_now()
            unlike = [at for at in range(make) if now[at] != ahead[at]]
            self.assertEqual(tuple(unlike), told)
            ahead = now

    def test_two_by_turns(self):
        one, other = Newest(1), Newest(5)
        told = []
        for _ in range(4):
            told.append((one.grown(7, 2), other.grown(9, 3)))
        self.assertEqual(told, [((), ()), ((0,), (0,)), ((), (1,)), ((2,), (2,))])
        self.assertEqual((one.laying_now(), one.room_now()), ((1, None, 3, None), 18))
        self.assertEqual((other.laying_now(), other.room_now()), ((1, 2, 3, None), 18))


if __name__ == "__main__":
    unittest.main()
