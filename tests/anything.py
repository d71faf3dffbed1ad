"""Things of every kind that an is_.. may be asked about."""

import copy


def nested(inner, deep, kinds):
    """inner in so many lists or tuples, the kinds taken in turn from within."""
    for level in range(deep):
        inner = kinds[level % len(kinds)]([inner])
    return inner


def never_right():
    """Things that are right in no place of a change, a stock or a laying."""
    things = [True, False, "", "a", "0", "1", "None", "keep ", "Keep", "PUT", "put\n"]
    things += [[], [0], [1, 2], [None], [[]], [()], ["keep", 0, 1], ["put", (1,)], [1, 1, 1]]
    things += [((),), ((), (), ()), (None,), (True,), ("",), ((0,),), ([0],), (0, [0]), ("put",), ("keep", 0)]
    for kinds in [(list,), (tuple,), (list, tuple), (tuple, list), (tuple, tuple, list)]:
        for inner in [0, True, None, "keep", [], ()]:
            for deep in (1, 2, 3, 18):
                things.append([nested(inner, deep, kinds)])
            things.append((nested(inner, 18, kinds),))
    return things


def places(thing, path=()):
    """The path of each part of nested tuples, the whole first."""
    found = [path]
    if isinstance(thing, tuple):
        for at, part in enumerate(thing):
            found += places(part, path + (at,))
    return found


def with_part(thing, path, part):
    """thing, with another part in the place to which path leads."""
    if not path:
        return part
    at = path[0]
    return thing[:at] + (with_part(thing[at], path[1:], part),) + thing[at + 1:]


def part_at(thing, path):
    for at in path:
        thing = thing[at]
    return thing


def spoiled(thing):
    """Of a right thing: each with one part in the place of which stands what is never right there.

    No part is left out or doubled by this, so that none of them is right by chance.
    """
    found = []
    for path in places(thing):
        part = part_at(thing, path)
        wrong = never_right()
        if isinstance(part, tuple):
            wrong += [list(part), None, 0, -1, part[0] if part else 7, str(part)]
        elif isinstance(part, int):
            wrong += [str(part), (part,), [part]]
        elif isinstance(part, str):
            wrong += [None, 0, 1, (part,), [part], part + part, part[:-1]]
        found += [with_part(thing, path, other) for other in wrong]
    return found


def asked(case, ask, thing):
    """What ask tells of thing: True or False, twice the same, and thing left as it was."""
    before = copy.deepcopy(thing)
    told = ask(thing)
    case.assertIs(type(told), bool, thing)
    case.assertIs(ask(thing), told, thing)
    case.assertEqual(repr(thing), repr(before))
    return told
