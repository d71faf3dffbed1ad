"""What the tests share: things of every kind to ask about, stocks, and the document's words on them gone by plainly."""

import copy
import itertools


def nested(inner, deep, kinds):
    """inner in so many lists or tuples, the kinds taken in turn from within."""
    for level in range(deep):
        inner = kinds[level % len(kinds)]([inner])
    return inner


def never_right():
    """Things that are right in no place of a change, a stock or a laying, nor of what shows a least room."""
    things = [True, False, "", "a", "0", "1", "None", "keep ", "Keep", "PUT", "put\n"]
    things += [[], [0], [1, 2], [None], [[]], [()], ["keep", 0, 1], ["put", (1,)], [1, 1, 1]]
    things += [((),), ((), (), ()), (None,), (True,), ("",), ((0,),), ([0],), (0, [0]), ("put",), ("keep", 0)]
    for kinds in [(list,), (tuple,), (list, tuple), (tuple, list), (tuple, tuple, list)]:
        for inner in [0, True, None, "keep", [], ()]:
            for deep in (1, 2, 3, 18):
                things.append([nested(inner, deep, kinds)])
            things.append((nested(inner, 18, kinds),))
    return things


def places(thing, path=()):
    """The path of each part of nested tuples and lists, the whole first."""
    found = [path]
    if isinstance(thing, (tuple, list)):
        for at, part in enumerate(thing):
            found += places(part, path + (at,))
    return found


def with_part(thing, path, part):
    """thing, with another part in the place to which path leads."""
    if not path:
        return part
    at = path[0]
    return thing[:at] + type(thing)([with_part(thing[at], path[1:], part)]) + thing[at + 1:]


def part_at(thing, path):
    for at in path:
        thing = thing[at]
    return thing


def spoiled(thing):
    """Of a right thing: each with one part in the place of which stands what is never right there.

    No part is left out or doubled by this, so that none of them is right by chance.
    """
    found = []
    for path in places(thing):
        part = part_at(thing, path)
        wrong = never_right()
        if isinstance(part, tuple):
            wrong += [list(part), None, 0, -1, part[0] if part else 7, str(part)]
        elif isinstance(part, list):
            wrong += [tuple(part), None, 0, -1, part[0] if part else 7, str(part)]
        elif isinstance(part, int):
            wrong += [str(part), (part,), [part]]
        elif isinstance(part, str):
            wrong += [None, 0, 1, (part,), [part], part + part, part[:-1]]
        found += [with_part(thing, path, other) for other in wrong]
    return found


def asked(case, ask, thing):
    """What ask tells of thing: True or False, twice the same, and thing left as it was."""
    before = copy.deepcopy(thing)
    told = ask(thing)
    case.assertIs(type(told), bool, thing)
    case.assertIs(ask(thing), told, thing)
    case.assertEqual(repr(thing), repr(before))
    return told


def rising(layings):
    """These layings by their first unlike part, None ahead of numbers."""
    return sorted(layings, key=lambda laying: [-1 if on is None else on for on in laying])


def tried_layings(stock):
    """All layings of a stock of few makes, rising, by trying each tuple there is."""
    makes = range(len(stock[0]))
    ons = [[None] + [a for a, b, _ in stock[1] if b == make] for make in makes]
    return rising(laying for laying in itertools.product(*ons) if all_come_to(laying))


def all_come_to(laying):
    """Whether each make is come to from one that is kept whole."""
    come_to = set()
    for _ in laying:
        come_to |= {make for make, on in enumerate(laying) if on is None or on in come_to}
    return len(come_to) == len(laying)


def sizes_laid(stock, laying):
    sizes = {(a, b): size for a, b, size in stock[1]}
    return [stock[0][make] if on is None else sizes[on, make] for make, on in enumerate(laying)]


def room_laid(stock, laying):
    return sum(sizes_laid(stock, laying))


def reads_laid(stock, laying):
    sizes = sizes_laid(stock, laying)
    told = []
    for make, on in enumerate(laying):
        read = sizes[make]
        while on is not None:
            read += sizes[on]
            on = laying[on]
        told.append(read)
    return tuple(told)


def deepest_laid(laying):
    ones = tuple((on, make, 1) for make, on in enumerate(laying) if on is not None)
    return max(reads_laid(((0,) * len(laying), ones), laying), default=0)


def is_number(thing):
    return type(thing) is int


def is_paper(stock, paper):
    """Whether paper is a paper of prices for the stock, each of the document's words asked one after another."""
    if type(paper) is not list:
        return False
    for pair in paper:
        if type(pair) is not tuple or len(pair) != 2 or type(pair[0]) is not tuple or not is_number(pair[1]):
            return False
        if not pair[0] or pair[1] < 1 or not all(map(is_number, pair[0])):
            return False
        if list(pair[0]) != sorted(set(pair[0])) or pair[0][0] < 0 or pair[0][-1] >= len(stock[0]):
            return False
    if len(dict(paper)) != len(paper):
        return False
    used = {(a, b): 0 for a in [None, *range(len(stock[0]))] for b in range(len(stock[0]))}
    for makes, price in paper:
        for a, b in used:
            used[a, b] += price if b in makes and a not in makes else 0
    if any(used[None, make] > size for make, size in enumerate(stock[0])):
        return False
    return all(used[a, b] <= size for a, b, size in stock[1])


def is_least_shown(stock, thing):
    """Whether thing shows the least room of the stock by the document's words."""
    if type(thing) is not tuple or len(thing) != 3 or not is_number(thing[0]):
        return False
    number, laying, paper = thing
    there = {(a, b) for a, b, _ in stock[1]} | {(None, make) for make in range(len(stock[0]))}
    if type(laying) is not tuple or len(laying) != len(stock[0]):
        return False
    if not all(on is None or is_number(on) for on in laying):
        return False
    if not all((on, make) in there for make, on in enumerate(laying)) or not all_come_to(laying):
        return False
    return is_paper(stock, paper) and number == room_laid(stock, laying) == sum(price for _, price in paper)


def some_stock(chance, makes, share, size, whole):
    """A stock by chance: of all changes so great a share out of 10, sizes up to the one, wholes up to the other."""
    pairs = [pair for pair in itertools.permutations(range(makes), 2) if chance.randrange(10) < share]
    changes = tuple((a, b, chance.randint(1, size)) for a, b in pairs)
    return (tuple(chance.randint(1, whole) for _ in range(makes)), changes)


def some_stocks(chance, makes):
    """Stocks of so many makes: few changes and all, dear and cheap ones, sizes alike, sizes up to 10 ** 9."""
    kinds = [(0, 1), (2, 5), (5, 5), (10, 1), (10, 2), (10, 9), (10, 10 ** 9), (3, 10 ** 9)]
    stocks = [some_stock(chance, makes, share, size, size) for share, size in kinds]
    stocks += [some_stock(chance, makes, share, 100, 10) for share in (3, 10)]
    stocks += [some_stock(chance, makes, share, 10, 100) for share in (3, 10)]
    stocks.append(some_stock(chance, makes, 10, 3, 10 ** 9))
    return stocks


def with_rings(stock, rings, size):
    """The stock, with changes of this size around each ring of makes in the place of what there was."""
    changes = {(a, b): there for a, b, there in stock[1]}
    for ring in rings:
        changes.update({pair: size for pair in zip(ring, ring[1:] + ring[:1])})
    return (stock[0], tuple((a, b, there) for (a, b), there in sorted(changes.items())))


def nearest(stock):
    """The least to read of each make, the makes settled one after another from the least on."""
    found = {}
    near = dict(enumerate(stock[0]))
    while near:
        make = min(near, key=lambda one: near[one])
        found[make] = near.pop(make)
        for a, b, size in stock[1]:
            if a == make and b in near:
                near[b] = min(near[b], found[a] + size)
    return tuple(found[make] for make in range(len(stock[0])))


def lists_in(thing):
    """All lists within nested tuples and lists."""
    found = [thing] if isinstance(thing, list) else []
    if isinstance(thing, (list, tuple)):
        for part in thing:
            found += lists_in(part)
    return found


def told(case, ask, *given):
    """What ask tells: twice the same, in lists of the asker's own, what is handed in left as it was."""
    before = copy.deepcopy(given)
    answer = ask(*given)
    again = ask(*given)
    case.assertEqual(repr(again), repr(answer), given)
    case.assertEqual(repr(given), repr(before))
    lists = lists_in(answer) + lists_in(again)
    case.assertEqual(len({id(one) for one in lists}), len(lists))
    kept = copy.deepcopy(answer)
    for one in lists_in(again):
        one.append("more")
        one.reverse()
    case.assertEqual(repr(answer), repr(kept))
    case.assertEqual(repr(ask(*given)), repr(kept))
    return answer


def even_stock(wholes, sizes):
    """The stock with these wholes, and both ways the changes of these sizes, each under a pair of makes."""
    both = {pair[::step]: size for pair, size in sizes.items() for step in (1, -1)}
    return (tuple(wholes), tuple((a, b, size) for (a, b), size in sorted(both.items())))


def even_stocks(chance, makes):
    """Even stocks of so many makes: by chance, in rows, rings and trees, and as places on a line or a plane."""
    pairs = list(itertools.combinations(range(makes), 2))
    stocks = []
    for most in (1, 3, 100, 10 ** 9):
        for share in (3, 10):
            some = {pair: chance.randint(1, most) for pair in pairs if chance.randrange(10) < share}
            stocks.append(even_stock([chance.randint(1, most) for _ in range(makes)], some))
    for whole in (5, 25, 60, 10 ** 9 - 9):
        wholes = [whole + chance.randrange(10) for _ in range(makes)]
        order = chance.sample(range(makes), makes)
        stocks.append(even_stock(wholes, {pair: chance.randint(1, 9) for pair in zip(order, order[1:])}))
        ring = zip(order, order[1:] + order[:1]) if makes > 2 else []
        stocks.append(even_stock(wholes, {pair: chance.randint(1, 30) for pair in ring}))
        tree = [(order[at], order[chance.randint(max(0, at - 3), at - 1)]) for at in range(1, makes)]
        stocks.append(even_stock(wholes, {pair: chance.randint(1, 9) for pair in tree}))
    for wide, high in ((0, 90), (50, 50), (9, 90)):
        at = [(chance.randint(-wide, wide), chance.randint(-high, high)) for _ in range(makes)]
        wholes = [1 + abs(x) + abs(y) for x, y in at]
        far = {(a, b): 1 + abs(at[a][0] - at[b][0]) + abs(at[a][1] - at[b][1]) for a, b in pairs}
        stocks.append(even_stock(wholes, far))
    return stocks


def hub_stock(makes, top, below, whole):
    """An even stock in which many makes close to each other are each a little too far by the least room.

    A row of makes leads to a hub, and all others are by 1 away from it. The hub is just not too far from the whole
    size of these; each of them, by the hub, just is.
    """
    far = top * (whole + 1) // below
    steps = 1 + far // (whole - 1)
    sizes = {(at, at + 1): far // steps for at in range(steps - 1)}
    sizes.update({(steps - 1, other): 1 for other in range(steps, makes)})
    first = far - far // steps * (steps - 1)
    return even_stock([first] + [10 ** 9] * (steps - 1) + [whole] * (makes - steps), sizes)


def all_kept(makes):
    """All kept of a row of so many makes, rising."""
    some = [rest for many in range(makes) for rest in itertools.combinations(range(1, makes), many)]
    return sorted((0,) + rest for rest in some)


def kept_sizes(row, kept):
    """What each make of the row takes."""
    return [row[0][make] if make in kept else row[1][make - 1] for make in range(len(row[0]))]


def kept_reads(row, kept):
    """What there is to read of each make of the row."""
    read = []
    for make, size in enumerate(kept_sizes(row, kept)):
        read.append(size if make in kept else read[-1] + size)
    return tuple(read)


def kept_deep(row, kept):
    """How many makes that aren't whole stand at most behind each other."""
    deepest = since = 0
    for make in range(len(row[0])):
        since = 0 if make in kept else since + 1
        deepest = max(deepest, since)
    return deepest


def some_row(chance, makes, whole, step):
    """A row by chance, wholes up to the one, steps up to the other."""
    return (
        tuple(chance.randint(1, whole) for _ in range(makes)), tuple(chance.randint(1, step) for _ in range(makes - 1)))


def some_rows(chance, makes):
    """Rows of so many makes: dear and cheap steps, sizes alike and nearly so, sizes up to 10 ** 9."""
    kinds = [(1, 1), (2, 2), (3, 1), (1, 3), (4, 4), (20, 5), (9, 9), (10, 100), (10 ** 9, 10 ** 9), (10 ** 9, 3)]
    rows = [some_row(chance, makes, whole, step) for whole, step in kinds]
    for whole, step in ((7, 2), (3, 3), (10 ** 9, 10 ** 9)):
        rows.append(((whole,) * makes, (step,) * (makes - 1)))
    return rows
