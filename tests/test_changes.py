"""changes.py: promise [3], and what [1] and [2] say of it."""

import itertools
import random
import unittest

from keepwhole.changes import change_size, changed, is_change, joined, least_change, whole_size
from tests.helper import asked, nested, never_right, spoiled

OLD = (5, 6, 7, 5)


def keep(at, many):
    return ("keep", at, many)


def put(*cells):
    return ("put", cells)


def size_told(change):
    size = 1
    for piece in change:
        size += 2 if len(piece) == 3 else 1 + len(piece[1])
    return size


def made_told(old, change):
    made = ()
    for piece in change:
        made += old[piece[1]:][:piece[2]] if len(piece) == 3 else piece[1]
    return made


def pieces_for(old, cells):
    """All pieces that make just these cells."""
    many = len(cells)
    return [put(*cells)] + [keep(at, many) for at in range(len(old) - many + 1) if old[at:at + many] == cells]


def all_changes(old, new):
    """All changes that make new of old, one by one."""
    if not new:
        return [()]
    found = []
    for many in range(1, len(new) + 1):
        for rest in all_changes(old, new[many:]):
            found += [(piece,) + rest for piece in pieces_for(old, new[:many])]
    return found


def least_told(old, new):
    """The least change by the least of what is behind each place."""
    best = [None] * len(new) + [(0, ())]
    for place in reversed(range(len(new))):
        ways = []
        for many in range(1, len(new) - place + 1):
            size, rest = best[place + many]
            for piece in pieces_for(old, new[place:place + many]):
                ways.append((size + size_told((piece,)) - 1, (piece,) + rest))
        best[place] = min(ways)
    return best[0][1]


def joined_told(one, other):
    """Both joined cell by cell, then neighbours put together."""
    cells = []
    for piece in one:
        if len(piece) == 3:
            cells += [("keep", at) for at in range(piece[1], piece[1] + piece[2])]
        else:
            cells += [("put", cell) for cell in piece[1]]
    made = []
    for piece in other:
        made += cells[piece[1]:piece[1] + piece[2]] if len(piece) == 3 else [("put", cell) for cell in piece[1]]
    pieces = []
    for word, part in made:
        last = pieces[-1] if pieces else None
        if last and word == last[0] == "put":
            last[1].append(part)
        elif last and word == last[0] and last[1] + last[2] == part:
            last[2] += 1
        else:
            pieces.append([word, part, 1] if word == "keep" else [word, [part]])
    return tuple(keep(*piece[1:]) if piece[0] == "keep" else put(*piece[1]) for piece in pieces)


def things_of(cells, most):
    return [thing for many in range(most + 1) for thing in itertools.product(cells, repeat=many)]


def some_thing(chance, many, cells):
    return tuple(chance.randrange(cells) for _ in range(many))


def some_change(chance, old, pieces):
    change = []
    for _ in range(pieces):
        if old and chance.randrange(3):
            at = chance.randrange(len(old))
            change.append(keep(at, chance.randint(1, len(old) - at)))
        else:
            change.append(put(*some_thing(chance, chance.randint(1, 3), 4)))
    return tuple(change)


class IsChange(unittest.TestCase):
    def told(self, old, thing):
        return asked(self, lambda asked_of: is_change(old, asked_of), thing)

    def test_true_of_changes(self):
        for change in [
            (), (keep(0, 4),), (keep(0, 1),), (keep(3, 1),), (keep(1, 3),), (put(1),), (put(1, 2, 3),),
            (keep(3, 1), keep(0, 4), keep(3, 1)), (keep(0, 2), put(9), keep(2, 2)), (put(1), put(1)),
            (keep(1, 2),) * 30, (put(0),) * 30,
        ]:
            self.assertIs(self.told(OLD, change), True, change)

    def test_of_any_number_of_pieces_and_cells(self):
        self.assertIs(self.told(OLD, (keep(1, 2), put(3)) * 100), True)
        self.assertIs(self.told(OLD, (keep(1, 2), put(3)) * 100 + (keep(4, 1),)), False)
        self.assertIs(self.told(OLD, (put(*range(300)),)), True)
        self.assertIs(self.told((7,) * 300, (keep(0, 300), keep(299, 1))), True)
        self.assertIs(self.told((7,) * 300, (keep(299, 2),)), False)

    def test_cells_are_any_numbers(self):
        for cell in (-1, -1000, 0, 1, 999, 1000, 10 ** 30, -10 ** 30):
            self.assertIs(self.told(OLD, (put(cell),)), True)
            self.assertIs(self.told(OLD, (put(1, cell, 2),)), True)
            self.assertIs(self.told((cell, cell), (keep(1, 1),)), True)

    def test_false_where_kept_cells_are_not_there(self):
        for piece in [
            keep(0, 5), keep(1, 4), keep(3, 2), keep(4, 1), keep(5, 1), keep(-1, 1), keep(-1, 2), keep(-4, 4),
            keep(-5, 5), keep(10 ** 30, 1), keep(0, 10 ** 30), keep(-10 ** 30, 10 ** 30),
        ]:
            self.assertIs(self.told(OLD, (piece,)), False, piece)
            self.assertIs(self.told(OLD, (keep(0, 1), piece)), False, piece)
            self.assertIs(self.told(OLD, (piece, put(1))), False, piece)

    def test_false_where_none_are_kept_or_put(self):
        for piece in [keep(0, 0), keep(4, 0), keep(2, -1), keep(4, -4), put()]:
            self.assertIs(self.told(OLD, (piece,)), False, piece)

    def test_an_empty_thing_has_nothing_to_keep(self):
        self.assertIs(self.told((), ()), True)
        self.assertIs(self.told((), (put(1),)), True)
        for piece in [keep(0, 0), keep(0, 1), keep(-1, 1)]:
            self.assertIs(self.told((), (piece,)), False)

    def test_true_and_false_are_no_numbers(self):
        for piece in [
            ("keep", True, 1), ("keep", False, 1), ("keep", 0, True), ("keep", False, True), put(True), put(False),
            put(1, True), put(False, 0),
        ]:
            self.assertIs(self.told(OLD, (piece,)), False, piece)

    def test_false_for_other_words_and_lengths(self):
        for piece in [
            ("put", 0, 1), ("keep", (1,)), ("copy", 0, 1), ("", 0, 1), ("Keep", 0, 1), ("keep", 0), ("keep", 0, 1, 1),
            ("keep",), ("put",), ("put", (1,), (2,)), ("put", 1), ("put", 1, 2), ("put", "1"), ("put", "a"), (),
            ("keep", "0", "1"), ("keep", None, 1), ("keep", 0, None), ("keep", (0,), 1), (0, 1, "keep"), (0, 1), (None, 0, 1),
            "put", "keep", "pu",
        ]:
            self.assertIs(self.told(OLD, (piece,)), False, piece)

    def test_a_bare_piece_is_no_change(self):
        self.assertIs(self.told(OLD, keep(0, 1)), False)
        self.assertIs(self.told(OLD, put(1)), False)

    def test_false_for_lists(self):
        for thing in [
            [], [keep(0, 1)], (["keep", 0, 1],), (["put", (1,)],), (("put", [1]),), (("put", []),), (("put", ([1],)),),
            (keep(0, 1), ["put", (1,)]),
        ]:
            self.assertIs(self.told(OLD, thing), False, thing)

    def test_false_for_anything_else(self):
        for thing in never_right() + [None, 0, 1, -1, 10 ** 30, "keep", "put"]:
            self.assertIs(self.told(OLD, thing), False, thing)
        for thing in spoiled((keep(0, 2), put(1, 2))):
            self.assertIs(self.told(OLD, thing), False, thing)
        for kinds in [(list,), (tuple,), (list, tuple), (tuple, list)]:
            for inner in [keep(0, 1), put(1), "keep", 0]:
                self.assertIs(self.told(OLD, nested(inner, 18, kinds)), False)


class Changed(unittest.TestCase):
    def test_known(self):
        for old, change, new in [
            (OLD, (), ()), ((), (), ()), (OLD, (keep(0, 4),), OLD), (OLD, (keep(1, 2),), (6, 7)),
            (OLD, (keep(3, 1), keep(0, 2)), (5, 5, 6)), (OLD, (keep(2, 2), keep(0, 2)), (7, 5, 5, 6)),
            (OLD, (keep(1, 2), keep(1, 2), keep(2, 1)), (6, 7, 6, 7, 7)), (OLD, (put(1, 2), put(3)), (1, 2, 3)),
            (OLD, (put(9), keep(3, 1), put(8, 8)), (9, 5, 8, 8)), ((), (put(0),), (0,)), ((-3,), (keep(0, 1), put(-4)), (-3, -4)),
        ]:
            self.assertEqual(changed(old, change), new)
            self.assertIs(type(changed(old, change)), tuple)

    def test_some(self):
        chance = random.Random(1)
        for _ in range(300):
            old = some_thing(chance, chance.randrange(25), 1000)
            change = some_change(chance, old, chance.randrange(31))
            self.assertEqual(changed(old, change), made_told(old, change))

    def test_the_same_again(self):
        questions = [(OLD, (keep(0, 2),)), (OLD, (keep(0, 2), put(1))), ((1, 2), (keep(0, 2),)), (OLD, ())]
        first = [changed(*question) for question in questions]
        self.assertEqual([changed(*question) for question in questions], first)
        self.assertEqual([changed(*question) for question in reversed(questions)], first[::-1])


class Sizes(unittest.TestCase):
    def test_whole(self):
        self.assertEqual([whole_size((7,) * many) for many in range(25)], list(range(1, 26)))

    def test_change(self):
        for change, size in [
            ((), 1), ((keep(0, 1),), 3), ((keep(0, 24),), 3), ((put(1),), 3), ((put(1, 1),), 4), ((put(*range(24)),), 26),
            ((keep(0, 1), keep(1, 1)), 5), ((put(1), put(2)), 5), ((keep(0, 1), put(1, 2, 3), keep(2, 2)), 9),
            ((keep(0, 1),) * 30, 61), ((put(4, 4),) * 30, 91),
        ]:
            self.assertEqual(change_size(change), size, change)

    def test_numbers_are_told(self):
        for told in (whole_size(()), change_size(()), whole_size((1,)), change_size((keep(0, 1),))):
            self.assertIs(type(told), int)

    def test_the_same_again(self):
        changes = [(), (keep(0, 1),), (put(1, 2),), (keep(0, 1), put(1, 2))]
        first = [change_size(change) for change in changes]
        self.assertEqual([change_size(change) for change in changes[::-1]], first[::-1])


class LeastChange(unittest.TestCase):
    def check(self, old, new, change):
        told = least_change(old, new)
        self.assertEqual(told, change, (old, new))
        self.assertIs(is_change(old, told), True)
        self.assertEqual(changed(old, told), new)
        self.assertEqual(change_size(told), size_told(change))

    def test_known(self):
        for old, new, change in [
            ((), (), ()), (OLD, (), ()), ((), (1,), (put(1),)), ((), (1, 2), (put(1, 2),)), (OLD, OLD, (keep(0, 4),)),
            ((1,), (1,), (keep(0, 1),)), ((1,), (2,), (put(2),)), ((1,), (1, 2), (put(1, 2),)),
            ((1, 2), (1, 2, 9), (keep(0, 2), put(9))), ((1, 2), (9, 1, 2), (put(9), keep(0, 2))),
            ((1, 2, 3), (4, 1, 2, 3), (put(4), keep(0, 3))),
        ]:
            self.check(old, new, change)

    def test_of_equal_ones_the_first(self):
        # The least place, then the fewest cells, keeps ahead of puts, and the shorter put.
        self.check((1, 2, 1, 2), (1, 2), (keep(0, 2),))
        self.check((1, 2, 3, 2, 3, 4), (1, 2, 3, 4), (keep(0, 1), keep(3, 3)))
        self.check((3, 9, 1, 2, 3), (1, 2, 3, 9), (keep(2, 2), keep(0, 2)))
        self.check((1, 2), (9, 1, 2), (put(9), keep(0, 2)))
        self.check((0, 0, 0), (0, 0, 0, 0), (keep(0, 1), keep(0, 3)))
        self.check((0, 0), (0, 0, 0), (keep(0, 1), keep(0, 2)))
        self.check((0,), (0, 0), (put(0, 0),))

    def test_all_changes_of_small_things(self):
        for old in things_of((0, 1), 4):
            for new in things_of((0, 1), 4):
                best = min(all_changes(old, new), key=lambda change: (size_told(change), change))
                self.check(old, new, best)

    def test_all_changes_of_small_things_of_three_cells(self):
        for old in things_of((3, 500, 999), 3):
            for new in things_of((3, 500, 999), 3):
                best = min(all_changes(old, new), key=lambda change: (size_told(change), change))
                self.check(old, new, best)

    def test_all_changes_of_some_longer_things(self):
        chance = random.Random(2)
        for _ in range(60):
            old = some_thing(chance, chance.randint(4, 7), 2)
            new = some_thing(chance, chance.randint(5, 6), 2)
            best = min(all_changes(old, new), key=lambda change: (size_told(change), change))
            self.check(old, new, best)

    def test_things_of_24_cells(self):
        chance = random.Random(3)
        for cells in (1, 2, 3, 4, 8, 1000):
            for _ in range(12):
                old = some_thing(chance, 24, cells)
                new = some_thing(chance, 24, cells)
                self.check(old, new, least_told(old, new))
                edited = old[12:] + (7,) + old[:5] + (8, 8) + old[2:6]
                self.check(old, edited, least_told(old, edited))

    def test_24_cells_alike_or_unlike(self):
        rising = tuple(range(24))
        self.check(rising, rising, (keep(0, 24),))
        self.check((), rising, (put(*rising),))
        self.check(rising, (), ())
        self.check(rising, tuple(range(100, 124)), (put(*range(100, 124)),))
        self.check((0,) * 24, (0,) * 24, (keep(0, 24),))
        self.check((0,) * 12, (0,) * 24, (keep(0, 12), keep(0, 12)))
        self.check((0,) * 13, (0,) * 24, (keep(0, 11), keep(0, 13)))
        self.check(rising, rising[::-1], (put(*rising[::-1]),))

    def test_many_alike_are_not_gone_through(self):
        old = (0, 1) * 12
        for new in [(0, 0, 1, 1) * 6, (1, 0) * 12, (0, 1, 1) * 8, (1, 1, 1, 0, 0, 0) * 4]:
            self.check(old, new, least_told(old, new))

    def test_the_same_again(self):
        things = [(), (1,), (1, 2), (1, 2, 1, 2), (2, 1, 1), OLD]
        first = [least_change(old, new) for old in things for new in things]
        again = [least_change(old, new) for old in reversed(things) for new in reversed(things)]
        self.assertEqual(again[::-1], first)


class Joined(unittest.TestCase):
    def check(self, one, other, change):
        self.assertEqual(joined(one, other), change, (one, other))
        self.assertIs(type(joined(one, other)), tuple)

    def test_known(self):
        for one, other, change in [
            ((), (), ()), ((keep(0, 4),), (), ()), ((), (put(1),), (put(1),)), ((keep(0, 4),), (keep(0, 4),), (keep(0, 4),)),
            ((put(1, 2, 3),), (keep(1, 1),), (put(2),)), ((keep(2, 5),), (keep(1, 3),), (keep(3, 3),)),
            ((keep(2, 5),), (keep(3, 2), keep(0, 1)), (keep(5, 2), keep(2, 1))),
            ((keep(0, 2), put(9), keep(5, 2)), (keep(1, 3),), (keep(1, 1), put(9), keep(5, 1))),
            ((keep(0, 2), put(9, 8), keep(5, 2)), (keep(0, 6),), (keep(0, 2), put(9, 8), keep(5, 2))),
            ((keep(0, 2), put(9, 8), keep(5, 2)), (keep(3, 1), put(1), keep(3, 3)), (put(8, 1, 8), keep(5, 2))),
        ]:
            self.check(one, other, change)

    def test_neighbours_put_together(self):
        for one, other, change in [
            ((), (put(1), put(2, 3), put(4)), (put(1, 2, 3, 4),)), ((put(1), put(2)), (keep(0, 2),), (put(1, 2),)),
            ((put(1, 2),), (put(0), keep(0, 2), put(3)), (put(0, 1, 2, 3),)), ((put(1, 2),), (keep(1, 1), keep(0, 1)), (put(2, 1),)),
            ((keep(0, 1), keep(1, 2), keep(3, 1)), (keep(0, 4),), (keep(0, 4),)),
            ((keep(0, 4),), (keep(0, 1), keep(1, 1), keep(2, 2)), (keep(0, 4),)),
            ((keep(2, 2), keep(0, 2)), (keep(2, 2), keep(0, 2)), (keep(0, 4),)),
        ]:
            self.check(one, other, change)

    def test_neighbours_not_put_together(self):
        for one, other, change in [
            ((keep(0, 2), keep(0, 2)), (keep(0, 4),), (keep(0, 2), keep(0, 2))),
            ((keep(0, 2), keep(3, 1)), (keep(0, 3),), (keep(0, 2), keep(3, 1))),
            ((keep(0, 2), keep(1, 2)), (keep(0, 4),), (keep(0, 2), keep(1, 2))),
            ((keep(2, 2), keep(0, 2)), (keep(0, 4),), (keep(2, 2), keep(0, 2))),
            ((keep(0, 4),), (keep(0, 1), keep(2, 2)), (keep(0, 1), keep(2, 2))),
            ((keep(0, 4),), (keep(0, 2), put(7), keep(2, 2)), (keep(0, 2), put(7), keep(2, 2))),
            ((put(0, 1), keep(2, 1)), (keep(0, 3), put(3)), (put(0, 1), keep(2, 1), put(3))),
        ]:
            self.check(one, other, change)

    def test_some(self):
        chance = random.Random(4)
        for _ in range(600):
            old = some_thing(chance, chance.randrange(13), 5)
            one = some_change(chance, old, chance.randrange(8))
            middle = made_told(old, one)
            other = some_change(chance, middle, chance.randrange(8))
            told = joined(one, other)
            self.assertEqual(told, joined_told(one, other))
            self.assertIs(is_change(old, told), True)
            self.assertEqual(changed(old, told), changed(changed(old, one), other))

    def test_of_thirty_pieces(self):
        chance = random.Random(5)
        for _ in range(20):
            old = some_thing(chance, 24, 1000)
            one = some_change(chance, old, 30)
            other = some_change(chance, made_told(old, one), 30)
            self.check(one, other, joined_told(one, other))

    def test_the_same_again(self):
        one = (keep(0, 2), put(9), keep(1, 1))
        others = [(keep(0, 4),), (keep(1, 2),), (), (put(1), keep(2, 1))]
        first = [joined(one, other) for other in others]
        self.assertEqual([joined(one, other) for other in others[::-1]], first[::-1])


class ToldAgain(unittest.TestCase):
    """What was told may be handed in again, whatever its size."""

    def test_a_thing_made_large(self):
        small = tuple(range(24))
        change = (keep(0, 24),) * 30
        large = changed(small, change)
        self.assertEqual(large, small * 30)
        self.assertEqual(whole_size(large), 721)
        self.assertEqual(least_change(small, large), change)
        self.assertEqual(least_change(large, small), (keep(0, 24),))
        self.assertEqual(least_change(large, large), (keep(0, 720),))
        larger = changed(large, (keep(0, 720), keep(24, 696), keep(0, 720)))
        self.assertEqual(len(larger), 2136)
        self.assertEqual(least_change(small, larger), (keep(0, 24),) * 89)
        self.assertEqual(changed(small, least_change(small, larger)), larger)

    def test_changes_joined_again_and_again(self):
        old = tuple(range(24))
        change = (keep(0, 24), keep(0, 24), put(5))
        told = change
        thing = changed(old, change)
        for _ in range(10):
            thing = changed(thing, change)
            told = joined(told, change)
            change = (keep(0, 20), put(1), keep(len(thing) - 9, 9), keep(3, len(thing) - 3))
        self.assertIs(is_change(old, told), True)
        self.assertEqual(changed(old, told), thing)
        self.assertEqual(change_size(told), size_told(told))


if __name__ == "__main__":
    unittest.main()
