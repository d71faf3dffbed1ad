"""readcheck.py: of promises [7] and [8] shows_reads and shows_between, and what [1] and [2] say of them."""

import copy
import random
import unittest

from keepwhole.between import between
from keepwhole.leastroom import least_room
from keepwhole.reading import least_reads, soonest
from keepwhole.readcheck import shows_between, shows_reads
from keepwhole.rows import row_stock
from tests.helper import (
    all_come_to, asked, even_stock, even_stocks, is_least_shown, is_number, nearest, nested, never_right, part_at,
    places, reads_laid, room_laid, some_stock, some_stocks, spoiled, tried_layings, with_part)

GREAT = 10 ** 9

# Make 2 has 14 to read by each: on 0, on 1, and whole; the sizes are all unlike.
STOCK = ((10, 8, 14, 50), ((0, 2, 4), (1, 2, 6), (1, 3, 9), (2, 3, 3), (3, 0, 2)))
NUMBERS = (10, 8, 14, 17)
LAYINGS = [(None, None, None, 1), (None, None, None, 2), (None, None, 0, 1), (None, None, 0, 2), (None, None, 1, 1),
           (None, None, 1, 2)]

# Even: by the change make 1 is read by 4 + 5, whole by 6; together they take 9, or 10 both whole, or 11.
EVEN = ((4, 6), ((0, 1, 5), (1, 0, 5)))
LEAST = (9, (None, 0), [((0,), 4), ((1,), 5)])
SOON = ((4, 6), (None, None))


def is_laid(stock, laying):
    """Whether laying is a laying of the stock, by the document's words."""
    there = {(a, b) for a, b, _ in stock[1]} | {(None, make) for make in range(len(stock[0]))}
    if type(laying) is not tuple or len(laying) != len(stock[0]):
        return False
    if not all(on is None or is_number(on) for on in laying):
        return False
    return all((on, make) in there for make, on in enumerate(laying)) and all_come_to(laying)


def is_reads_shown(stock, numbers, laying):
    """Whether numbers and laying show the least reads, each of the document's words asked one after another."""
    if type(numbers) is not tuple or len(numbers) != len(stock[0]) or not all(map(is_number, numbers)):
        return False
    if any(numbers[make] > size for make, size in enumerate(stock[0])):
        return False
    if any(numbers[b] > numbers[a] + size for a, b, size in stock[1]):
        return False
    return is_laid(stock, laying) and reads_laid(stock, laying) == numbers


def is_between_shown(stock, top, below, thing):
    """Whether thing shows a laying between both by the document's words."""
    if type(thing) is not tuple or len(thing) != 4:
        return False
    laying, least, numbers, soon = thing
    if not is_laid(stock, laying) or not is_least_shown(stock, least) or not is_reads_shown(stock, numbers, soon):
        return False
    if (top - below) * room_laid(stock, laying) > (top + below) * least[0]:
        return False
    return all(below * own <= top * number for own, number in zip(reads_laid(stock, laying), numbers))


def put_together(stock, top, below):
    return (between(stock, top, below), least_room(stock), least_reads(stock), soonest(stock))


def otherwise(chance, thing):
    """The thing with one part, anywhere in it, otherwise."""
    path = chance.choice(places(thing))
    part = part_at(thing, path)
    others = [0, 1, 2, -1, True, False, None, "", "1", (), [], (0,), (None,), [0]]
    if type(part) is int:
        others += [part + 1, part - 1] * 8 + [bool(part)]
    elif isinstance(part, (list, tuple)):
        mixed = type(part)(chance.sample(part, len(part)))
        others += [part[::-1], part[1:], part[:-1], part + part[:1], mixed] * 2 + [list(part), tuple(part)]
    return with_part(thing, path, chance.choice(others))


class ShowsReads(unittest.TestCase):
    def told(self, stock, numbers, laying):
        before = repr(stock)
        told = asked(self, lambda both: shows_reads(stock, both[0], both[1]), (numbers, laying))
        self.assertEqual(repr(stock), before)
        return told

    def right(self, stock, numbers, laying):
        self.assertIs(self.told(stock, numbers, laying), True, (stock, numbers, laying))

    def wrong(self, stock, numbers, laying):
        self.assertIs(self.told(stock, numbers, laying), False, (stock, numbers, laying))

    def test_known(self):
        self.right(((), ()), (), ())
        self.right(((1,), ()), (1,), (None,))
        self.right(((GREAT, 3), ()), (GREAT, 3), (None, None))
        self.right(((5, 9), ((0, 1, 3),)), (5, 8), (None, 0))
        for laying in LAYINGS:
            self.right(STOCK, NUMBERS, laying)

    def test_what_is_told(self):
        chance = random.Random(70)
        for makes in range(13):
            for stock in some_stocks(chance, makes):
                self.right(stock, least_reads(stock), soonest(stock))
        for makes in (1, 2, 30):
            stock = row_stock(((60,) + (20,) * (makes - 1), (3,) * (makes - 1)))
            self.right(stock, least_reads(stock), soonest(stock))

    def test_each_laying_of_few_makes(self):
        chance = random.Random(71)
        right = 0
        for makes in range(5):
            for stock in some_stocks(chance, makes) + [some_stock(chance, makes, 10, 3, 7) for _ in range(9)]:
                numbers = nearest(stock)
                for laying in tried_layings(stock):
                    own = reads_laid(stock, laying)
                    right += own == numbers
                    self.assertIs(self.told(stock, numbers, laying), own == numbers)
                    # Its own reads are shown by no other laying than those that have the least.
                    self.assertIs(self.told(stock, own, laying), own == numbers, (stock, own, laying))
        self.assertGreater(right, 120)

    def test_above_a_whole_alone(self):
        self.wrong(((5, 3), ((0, 1, 4),)), (5, 9), (None, 0))
        self.wrong(((5, 8), ((0, 1, 4),)), (5, 9), (None, 0))
        self.right(((5, 9), ((0, 1, 4),)), (5, 9), (None, 0))
        self.wrong(((3, 5), ((1, 0, 4),)), (9, 5), (1, None))

    def test_above_a_change_alone(self):
        self.wrong(((5, 20), ((0, 1, 4),)), (5, 20), (None, None))
        self.wrong(((5, 10), ((0, 1, 4),)), (5, 10), (None, None))
        self.right(((5, 9), ((0, 1, 4),)), (5, 9), (None, None))
        self.wrong(((20, 5), ((1, 0, 4),)), (20, 5), (None, None))
        # Only the one way: from 1 to 0 there is no change.
        self.right(((20, 15), ((0, 1, 4),)), (20, 15), (None, None))

    def test_numbers_that_are_not_the_layings(self):
        # Each within the wholes and the changes, but less than there is to read.
        for numbers in [(5, 7), (4, 8), (4, 7), (0, 0), (-1, 2), (-5, -2), (5, 3), (1, 1)]:
            self.wrong(((5, 9), ((0, 1, 3),)), numbers, (None, 0))
        self.wrong(((5,), ()), (4,), (None,))
        self.wrong(((5,), ()), (6,), (None,))

    def test_one_more_or_less(self):
        chance = random.Random(72)
        for makes in (1, 2, 5, 12):
            for stock in some_stocks(chance, makes):
                numbers = least_reads(stock)
                laying = soonest(stock)
                for at, number in enumerate(numbers):
                    for other in (number + 1, number - 1, 0, -number, 2 * number, number + GREAT):
                        self.wrong(stock, numbers[:at] + (other,) + numbers[at + 1:], laying)
                self.wrong(stock, tuple(number + 1 for number in numbers), laying)
                self.wrong(stock, tuple(number - 1 for number in numbers), laying)

    def test_true_for_one(self):
        self.right(((1,), ()), (1,), (None,))
        self.wrong(((1,), ()), (True,), (None,))
        self.wrong(((2, 1), ()), (2, True), (None, None))
        self.wrong(((1, 9), ((0, 1, 1),)), (True, 2), (None, 0))
        stock = ((9, 1, 9), ((1, 0, 3), (1, 2, 3)))
        self.right(stock, (4, 1, 4), (1, None, 1))
        for numbers, laying in [
            ((4, True, 4), (1, None, 1)), ((4, 1, 4), (True, None, 1)), ((4, 1, 4), (1, None, True)),
            ((4, 1, 4), (1, False, 1)),
        ]:
            self.wrong(stock, numbers, laying)
        stock = ((1, 9), ((0, 1, 3),))
        self.wrong(stock, (1, 4), (None, False))
        self.right(stock, (1, 4), (None, 0))

    def test_lists_and_tuples_exchanged(self):
        for laying in LAYINGS:
            self.wrong(STOCK, list(NUMBERS), laying)
            self.wrong(STOCK, NUMBERS, list(laying))
            self.wrong(STOCK, list(NUMBERS), list(laying))
        for at, number in enumerate(NUMBERS):
            for part in ([number], (number,), str(number)):
                self.wrong(STOCK, with_part(NUMBERS, (at,), part), LAYINGS[0])
        self.wrong(((), ()), [], ())
        self.wrong(((), ()), (), [])
        self.wrong(((), ()), [], [])

    def test_parts_left_out_or_added(self):
        for laying in LAYINGS:
            for at in range(4):
                self.wrong(STOCK, NUMBERS[:at] + NUMBERS[at + 1:], laying)
                self.wrong(STOCK, NUMBERS, laying[:at] + laying[at + 1:])
                self.wrong(STOCK, NUMBERS[:at] + NUMBERS[at + 1:], laying[:at] + laying[at + 1:])
            for more in (0, 1, 17, None, ()):
                self.wrong(STOCK, NUMBERS + (more,), laying)
                self.wrong(STOCK, NUMBERS, laying + (more,))
                self.wrong(STOCK, NUMBERS + (more,), laying + (None,))
        self.wrong(((), ()), (0,), ())
        self.wrong(((), ()), (), (None,))
        self.wrong(((5,), ()), (), ())

    def test_what_is_no_laying(self):
        for laying in [
            (3, None, 0, 2), (None, None, 3, 2), (3, None, None, 0), (None, None, 2, 2), (None, None, 4, 2),
            (None, None, -4, 2), (None, None, "0", 2), (None, None, (0,), 2), None, 0, 17, NUMBERS, "laying",
        ]:
            self.wrong(STOCK, NUMBERS, laying)
        # In a ring, with numbers that fit each change of it but no whole.
        self.wrong(((9, 9), ((0, 1, 2), (1, 0, 2))), (2, 4), (1, 0))

    def test_numbers_of_another_stock(self):
        chance = random.Random(73)
        for makes in (2, 5, 12):
            stocks = some_stocks(chance, makes)
            for stock in stocks:
                for other in stocks:
                    told = self.told(stock, least_reads(other), soonest(other))
                    self.assertIs(told, is_reads_shown(stock, least_reads(other), soonest(other)))
                    self.assertIs(self.told(stock, least_reads(other), soonest(stock)),
                                  least_reads(other) == least_reads(stock))

    def test_of_anything_else(self):
        for thing in never_right() + [None, 0, 1, 17, "numbers", (), []]:
            self.wrong(STOCK, thing, LAYINGS[0])
            self.wrong(STOCK, NUMBERS, thing)
            self.wrong(STOCK, thing, thing)
            if thing != ():
                self.wrong(((), ()), thing, ())
                self.wrong(((), ()), (), thing)
            for at in range(4):
                self.wrong(STOCK, with_part(NUMBERS, (at,), thing if thing != NUMBERS[at] else -1), LAYINGS[0])
        for numbers in spoiled(NUMBERS):
            self.wrong(STOCK, numbers, LAYINGS[3])

    def test_twenty_deep(self):
        for kinds in [(list,), (tuple,), (list, tuple), (tuple, list)]:
            for inner in (0, None, True, "a", (), [], NUMBERS, LAYINGS[0]):
                for deep in range(1, 20):
                    thing = nested(inner, deep, kinds)
                    self.wrong(STOCK, thing, LAYINGS[0])
                    self.wrong(STOCK, NUMBERS, thing)
                    self.wrong(STOCK, thing, thing)
                    self.wrong(STOCK, with_part(NUMBERS, (2,), thing), LAYINGS[0])
                    self.wrong(STOCK, NUMBERS, with_part(LAYINGS[3], (2,), thing))

    def test_spoilt_by_chance(self):
        chance = random.Random(74)
        right = 0
        for _ in range(3000):
            stock = some_stock(chance, chance.randint(0, 4), 7, 3, 6)
            both = (least_reads(stock), soonest(stock))
            for _ in range(chance.randint(0, 2)):
                at = chance.randrange(2)
                both = with_part(both, (at,), otherwise(chance, both[at]))
            by_words = is_reads_shown(stock, *both)
            right += by_words
            self.assertIs(self.told(stock, *both), by_words, (stock, both))
        self.assertTrue(800 < right < 2200, right)


class ShowsBetween(unittest.TestCase):
    def told(self, stock, top, below, thing):
        before = repr(stock)
        told = asked(self, lambda asked_of: shows_between(stock, top, below, asked_of), thing)
        self.assertEqual(repr(stock), before)
        return told

    def right(self, stock, top, below, thing):
        self.assertIs(self.told(stock, top, below, thing), True, (stock, top, below, thing))

    def wrong(self, stock, top, below, thing):
        self.assertIs(self.told(stock, top, below, thing), False, (stock, top, below, thing))

    def test_what_is_told(self):
        chance = random.Random(75)
        for makes in range(13):
            for stock in even_stocks(chance, makes):
                for top, below in [(2, 1), (3, 2), (1000, 1), (1000, 999), (7, 3)]:
                    self.right(stock, top, below, put_together(stock, top, below))

    def test_none_and_one(self):
        self.right(((), ()), 2, 1, ((), (0, (), []), (), ()))
        self.right(((5,), ()), 2, 1, ((None,), (5, (None,), [((0,), 5)]), (5,), (None,)))
        self.right(((5,), ()), 1000, 1, ((None,), (5, (None,), [((0,), 5)]), (5,), (None,)))

    def test_reads_just_kept_and_just_missed(self):
        # 9 to read of make 1 against 6: just by the half more.
        for top, below in [(3, 2), (150, 100), (999, 666), (1000, 666), (2, 1), (1000, 1)]:
            self.right(EVEN, top, below, ((None, 0), LEAST, *SOON))
        for top, below in [(149, 100), (1000, 667), (4, 3), (998, 666), (1000, 999)]:
            self.wrong(EVEN, top, below, ((None, 0), LEAST, *SOON))
            self.right(EVEN, top, below, ((None, None), LEAST, *SOON))
        # 11 to read of make 0 against 4.
        self.right(EVEN, 11, 4, ((1, None), LEAST, *SOON))
        self.wrong(EVEN, 10, 4, ((1, None), LEAST, *SOON))
        self.wrong(EVEN, 999, 364, ((1, None), LEAST, *SOON))

    def test_room_just_kept_and_just_missed(self):
        # 10 takes both whole against 9: just kept where top is 19 times below.
        for top, below in [(19, 1), (950, 50), (38, 2), (2, 1), (1000, 53)]:
            self.right(EVEN, top, below, ((None, None), LEAST, *SOON))
        for top, below in [(20, 1), (951, 50), (39, 2), (1000, 52), (1000, 1)]:
            self.wrong(EVEN, top, below, ((None, None), LEAST, *SOON))
            self.right(EVEN, top, below, ((None, 0), LEAST, *SOON))
        # 11 against 9: 10 times below.
        self.right(EVEN, 10, 1, ((1, None), LEAST, *SOON))
        self.wrong(EVEN, 11, 1, ((1, None), LEAST, *SOON))
        self.wrong(EVEN, 1000, 99, ((1, None), LEAST, *SOON))

    def test_other_layings_of_few_makes(self):
        chance = random.Random(76)
        counts = [0, 0]
        for makes in range(5):
            for stock in even_stocks(chance, makes):
                for top, below in [(2, 1), (4, 3), (5, 1)]:
                    rest = put_together(stock, top, below)[1:]
                    for laying in chance.sample(tried_layings(stock), min(9, len(tried_layings(stock)))):
                        by_words = is_between_shown(stock, top, below, (laying, *rest))
                        counts[by_words] += 1
                        self.assertIs(self.told(stock, top, below, (laying, *rest)), by_words)
        self.assertGreater(min(counts), 200, counts)

    def test_other_least_and_soon(self):
        # Another laying of least room, another paper, another laying of the same reads.
        stock = ((3, 3), ((0, 1, 2), (1, 0, 2)))
        for least in [
            (5, (None, 0), [((0,), 2), ((1,), 2), ((0, 1), 1)]), (5, (1, None), [((0,), 2), ((1,), 2), ((0, 1), 1)]),
            (5, (1, None), [((0, 1), 1), ((1,), 2), ((0,), 2)]),
        ]:
            for laying in [(None, None), (None, 0), (1, None)]:
                self.right(stock, 2, 1, (laying, least, (3, 3), (None, None)))
        stock = even_stock((6, 9, 20), {(0, 1): 3, (0, 2): 9, (1, 2): 6})
        least = least_room(stock)
        for soon in [(None, 0, 0), (None, None, 0), (None, 0, 1), (None, None, 1)]:
            self.right(stock, 2, 1, ((None, 0, 1), least, (6, 9, 15), soon))
        for soon in [(1, None, 0), (None, None, None), (1, 2, None)]:
            self.wrong(stock, 2, 1, ((None, 0, 1), least, (6, 9, 15), soon))

    def test_each_part_spoilt(self):
        stock = even_stock((40, 42, 41, 45), {(0, 1): 3, (0, 2): 9, (1, 2): 6, (2, 3): 11})
        laying, least, numbers, soon = put_together(stock, 3, 2)
        self.right(stock, 3, 2, (laying, least, numbers, soon))
        number, laid, paper = least
        for other in [(number + 1, laid, paper), (number - 1, laid, paper), (number, laid, paper[1:]), (number, laid),
                      (number, (None,) * 4, paper), (number, laid, tuple(paper)), [number, laid, paper], number, None,
                      (number, laid, paper + [((0, 3), 1)]), (sum(stock[0]), (None,) * 4, paper)]:
            self.wrong(stock, 3, 2, (laying, other, numbers, soon))
        for at in range(4):
            for other in (numbers[at] + 1, numbers[at] - 1, None, str(numbers[at])):
                self.wrong(stock, 3, 2, (laying, least, with_part(numbers, (at,), other), soon))
            self.wrong(stock, 3, 2, (laying, least, numbers, with_part(soon, (at,), at)))
            self.wrong(stock, 3, 2, (with_part(laying, (at,), at), least, numbers, soon))
        for other in [(1, 0, 1, 2), (None,) * 3, (None,) * 5, (), None, [None] * 4, (None, 3, 1, 2), numbers]:
            self.wrong(stock, 3, 2, (other, least, numbers, soon))
            self.wrong(stock, 3, 2, (laying, least, numbers, other if other != numbers else least))

    def test_numbers_of_another_stock(self):
        """What is too little is shown by dearer numbers, but these aren't this stock's."""
        dear = ((8, 12), ((0, 1, 10), (1, 0, 10)))
        self.right(dear, 4, 3, put_together(dear, 4, 3))
        self.wrong(EVEN, 4, 3, ((None, 0), LEAST, (8, 12), (None, None)))
        self.wrong(EVEN, 1000, 1, ((None, None), least_room(dear), *SOON))
        self.wrong(EVEN, 4, 3, put_together(dear, 4, 3))
        self.wrong(dear, 4, 3, put_together(EVEN, 4, 3))
        # The room told as greater than it is, with the laying of this room.
        self.wrong(EVEN, 1000, 1, ((None, None), (10, (None, None), [((0,), 4), ((1,), 6)]), *SOON))

    def test_lists_and_tuples_exchanged(self):
        for thing in [
            [(None, 0), LEAST, *SOON], ([None, 0], LEAST, *SOON), ((None, 0), list(LEAST), *SOON),
            ((None, 0), LEAST, [4, 6], SOON[1]), ((None, 0), LEAST, SOON[0], [None, None]),
            ((None, 0), (9, [None, 0], LEAST[2]), *SOON), ((None, 0), (9, (None, 0), tuple(LEAST[2])), *SOON),
            ((None, 0), (9, (None, 0), [[(0,), 4], ((1,), 5)]), *SOON),
            ((None, 0), (9, (None, 0), [([0], 4), ((1,), 5)]), *SOON),
        ]:
            self.wrong(EVEN, 2, 1, thing)
        empty = ((), (0, (), []), (), ())
        for at in range(4):
            self.wrong(((), ()), 2, 1, with_part(empty, (at,), list(empty[at])))
        self.wrong(((), ()), 2, 1, list(empty))
        self.wrong(((), ()), 2, 1, ((), (0, (), ()), (), ()))

    def test_true_for_one(self):
        stock = ((1, 1), ((0, 1, 1), (1, 0, 1)))
        right = ((None, None), (2, (None, None), [((0,), 1), ((1,), 1)]), (1, 1), (None, None))
        self.right(stock, 2, 1, right)
        for path in places(right):
            if part_at(right, path) == 1:
                self.wrong(stock, 2, 1, with_part(right, path, True))
            if type(part_at(right, path)) is int and part_at(right, path) == 0:
                self.wrong(stock, 2, 1, with_part(right, path, False))

    def test_parts_left_out_or_added(self):
        right = ((None, 0), LEAST, *SOON)
        self.right(EVEN, 2, 1, right)
        for path in places(right):
            part = part_at(right, path)
            if isinstance(part, (tuple, list)):
                for at in range(len(part)):
                    self.wrong(EVEN, 2, 1, with_part(right, path, part[:at] + part[at + 1:]))
                for more in (None, 0, 1, (), [], part):
                    self.wrong(EVEN, 2, 1, with_part(right, path, part + type(part)([more])))
                if len(part) == 4:
                    self.wrong(EVEN, 2, 1, part[::-1])
                    self.wrong(EVEN, 2, 1, part[1:] + part[:1])

    def test_of_anything_else(self):
        right = ((None, 0), LEAST, *SOON)
        for thing in never_right() + [None, 0, 1, 9, "between", (), []]:
            self.wrong(EVEN, 2, 1, thing)
            self.wrong(((), ()), 2, 1, thing)
            self.wrong(EVEN, 2, 1, (thing, thing, thing, thing))
        for thing in spoiled(right):
            self.wrong(EVEN, 2, 1, thing)

    def test_twenty_deep(self):
        right = ((None, 0), LEAST, *SOON)
        for kinds in [(list,), (tuple,), (list, tuple), (tuple, list)]:
            for inner in (0, None, True, "a", (), []):
                for deep in range(2, 19):
                    thing = nested(inner, deep, kinds)
                    self.wrong(EVEN, 2, 1, thing)
                    for at in range(4):
                        self.wrong(EVEN, 2, 1, with_part(right, (at,), thing))
                    self.wrong(EVEN, 2, 1, with_part(right, (2, 1), thing))
            for deep in range(1, 16):
                self.wrong(EVEN, 2, 1, nested(right, deep, kinds))

    def test_spoilt_by_chance(self):
        chance = random.Random(77)
        right = 0
        for _ in range(1500):
            stock = chance.choice(even_stocks(chance, chance.randint(0, 4)))
            top, below = chance.choice([(2, 1), (4, 3), (7, 2), (1000, 1)])
            thing = put_together(stock, top, below)
            for _ in range(chance.randint(0, 2)):
                thing = otherwise(chance, thing)
            by_words = is_between_shown(stock, top, below, thing)
            right += by_words
            self.assertIs(self.told(stock, top, below, thing), by_words, (stock, top, below, thing))
        self.assertTrue(400 < right < 1100, right)

    def test_nothing_is_kept(self):
        thing = copy.deepcopy(((None, 0), LEAST, *SOON))
        self.right(EVEN, 2, 1, thing)
        thing[1][2][0] = ((0,), 3)
        self.wrong(EVEN, 2, 1, thing)
        thing[1][2][0] = ((0,), 4)
        self.right(EVEN, 2, 1, thing)
        told = [shows_between(EVEN, top, 1, ((None, None), LEAST, *SOON)) for top in (19, 20, 19, 21, 2)]
        self.assertEqual(told, [True, False, True, False, True])


if __name__ == "__main__":
    unittest.main()
