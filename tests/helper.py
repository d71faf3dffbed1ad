"""What the tests share: things of every kind to ask about, stocks, and the document's words on them gone by plainly."""

import copy
import itertools


def nested(inner, deep, kinds):
    """inner in so many lists or tuples, the kinds taken in turn from within."""
    for level in range(deep):
        inner = kinds[level % len(kinds)]([inner])
    return inner


def never_right():
    """Things that are right in no place of a change, a stock or a laying, nor of what shows a least room."""
    things = [True, False, "", "a", "0", "1", "None", "keep ", "Keep", "PUT", "put\n"]
    things += [[], [0], [1, 2], [None], [[]], [()], ["keep", 0, 1], ["put", (1,)], [1, 1, 1]]
    things += [((),), ((), (), ()), (None,), (True,), ("",), ((0,),), ([0],), (0, [0]), ("put",), ("keep", 0)]
    for kinds in [(list,), (tuple,), (list, tuple), (tuple, list), (tuple, tuple, list)]:
        for inner in [0, True, None, "keep", [], ()]:
            for deep in (1, 2, 3, 18):
                things.append([nested(inner, deep, kinds)])
            things.append((nested(inner, 18, kinds),))
    return things


def places(thing, path=()):
    """The path of each part of nested tuples and lists, the whole first."""
    found = [path]
    if isinstance(thing, (tuple, list)):
        for at, part in enumerate(thing):
            found += places(part, path + (at,))
    return found


def with_part(thing, path, part):
    """thing, with another part in the place to which path leads."""
    if not path:
        return part
    at = path[0]
    return thing[:at] + type(thing)([with_part(thing[at], path[1:], part)]) + thing[at + 1:]


def part_at(thing, path):
    for at in path:
        thing = thing[at]
    return thing


def spoiled(thing):
    """Of a right thing: each with one part in the place of which stands what is never right there.

    No part is left out or doubled by this, so that none of them is right by chance.
    """
    found = []
    for path in places(thing):
        part = part_at(thing, path)
        wrong = never_right()
        if isinstance(part, tuple):
            wrong += [list(part), None, 0, -1, part[0] if part else 7, str(part)]
        elif isinstance(part, list):
            wrong += [tuple(part), None, 0, -1, part[0] if part else 7, str(part)]
        elif isinstance(part, int):
            wrong += [str(part), (part,), [part]]
        elif isinstance(part, str):
            wrong += [None, 0, 1, (part,), [part], part + part, part[:-1]]
        found += [with_part(thing, path, other) for other in wrong]
    return found


def asked(case, ask, thing):
    """What ask tells of thing: True or False, twice the same, and thing left as it was."""
    before = copy.deepcopy(thing)
    told = ask(thing)
    case.assertIs(type(told), bool, thing)
    case.assertIs(ask(thing), told, thing)
    case.assertEqual(repr(thing), repr(before))
    return told


def rising(layings):
    """These layings by their first unlike part, None ahead of numbers."""
    return sorted(layings, key=lambda laying: [-1 if on is None else on for on in laying])


def tried_layings(stock):
    """All layings of a stock of few makes, rising, by trying each tuple there is."""
    makes = range(len(stock[0]))
    ons = [[None] + [a for a, b, _ in stock[1] if b == make] for make in makes]
    return rising(laying for laying in itertools.product(*ons) if all_come_to(laying))


def all_come_to(laying):
    """Whether each make is come to from one that is kept whole."""
    come_to = set()
    for _ in laying:
        come_to |= {make for make, on in enumerate(laying) if on is None or on in come_to}
    return len(come_to) == len(laying)


def sizes_laid(stock, laying):
    sizes = {(a, b): size for a, b, size in stock[1]}
    return [stock[0][make] if on is None else sizes[on, make] for make, on in enumerate(laying)]


def room_laid(stock, laying):
    return sum(sizes_laid(stock, laying))


def reads_laid(stock, laying):
    sizes = sizes_laid(stock, laying)
    told = []
    for make, on in enumerate(laying):
        read = sizes[make]
        while on is not None:
            read += sizes[on]
            on = laying[on]
        told.append(read)
    return tuple(told)


def deepest_laid(laying):
    ones = tuple((on, make, 1) for make, on in enumerate(laying) if on is not None)
    return max(reads_laid(((0,) * len(laying), ones), laying), default=0)


def is_number(thing):
    return type(thing) is int


def is_paper(stock, paper):
    """Whether paper is a paper of prices for the stock, each of the document's words asked one after another."""
    if type(paper) is not list:
        return False
    for pair in paper:
        if type(pair) is not tuple or len(pair) != 2 or type(pair[0]) is not tuple or not is_number(pair[1]):
            return False
        if not pair[0] or pair[1] < 1 or not all(map(is_number, pair[0])):
            return False
        if list(pair[0]) != sorted(set(pair[0])) or pair[0][0] < 0 or pair[0][-1] >= len(stock[0]):
            return False
    if len(dict(paper)) != len(paper):
        return False
    used = {(a, b): 0 for a in [None, *range(len(stock[0]))] for b in range(len(stock[0]))}
    for makes, price in paper:
        for a, b in used:
            used[a, b] += price if b in makes and a not in makes else 0
    if any(used[None, make] > size for make, size in enumerate(stock[0])):
        return False
    return all(used[a, b] <= size for a, b, size in stock[1])


def is_least_shown(stock, thing):
    """Whether thing shows the least room of the stock by the document's words."""
    if type(thing) is not tuple or len(thing) != 3 or not is_number(thing[0]):
        return False
    number, laying, paper = thing
    there = {(a, b) for a, b, _ in stock[1]} | {(None, make) for make in range(len(stock[0]))}
    if type(laying) is not tuple or len(laying) != len(stock[0]):
        return False
    if not all(on is None or is_number(on) for on in laying):
        return False
    if not all((on, make) in there for make, on in enumerate(laying)) or not all_come_to(laying):
        return False
    return is_paper(stock, paper) and number == room_laid(stock, laying) == sum(price for _, price in paper)


def some_stock(chance, makes, share, size, whole):
    """A stock by chance: of all changes so great a share out of 10, sizes up to the one, wholes up to the other."""
    pairs = [pair for pair in itertools.permutations(range(makes), 2) if chance.randrange(10) < share]
    changes = tuple((a, b, chance.randint(1, size)) for a, b in pairs)
    return (tuple(chance.randint(1, whole) for _ in range(makes)), changes)


def some_stocks(chance, makes):
    """Stocks of so many makes: few changes and all, dear and cheap ones, sizes alike, sizes up to 10 ** 9."""
    kinds = [(0, 1), (2, 5), (5, 5), (10, 1), (10, 2), (10, 9), (10, 10 ** 9), (3, 10 ** 9)]
    stocks = [some_stock(chance, makes, share, size, size) for share, size in kinds]
    stocks += [some_stock(chance, makes, share, 100, 10) for share in (3, 10)]
    stocks += [some_stock(chance, makes, share, 10, 100) for share in (3, 10)]
    stocks.append(some_stock(chance, makes, 10, 3, 10 ** 9))
    return stocks


def with_rings(stock, rings, size):
    """The stock, with changes of this size around each ring of makes in the place of what there was."""
    changes = {(a, b): there for a, b, there in stock[1]}
    for ring in rings:
        changes.update({pair: size for pair in zip(ring, ring[1:] + ring[:1])})
    return (stock[0], tuple((a, b, there) for (a, b), there in sorted(changes.items())))
