"""Changes of things: what they make, what they take, the least, and two joined."""

from keepwhole.kinds import is_number, is_tuple_of


def is_change(old, thing):
    """Whether thing is a change of the thing old."""
    return isinstance(thing, tuple) and all([is_piece(old, piece) for piece in thing])


def is_piece(old, piece):
    return is_keep(old, piece) or is_put(piece)


def is_keep(old, piece):
    if not is_tuple_of(piece, 3):
        return False
    word, at, many = piece
    if word != "keep" or not is_number(at) or not is_number(many):
        return False
    return at >= 0 and many >= 1 and at + many <= len(old)


def is_put(piece):
    if not is_tuple_of(piece, 2):
        return False
    word, cells = piece
    if word != "put" or not isinstance(cells, tuple):
        return False
    return len(cells) >= 1 and all([is_number(cell) for cell in cells])


def changed(old, change):
    """The thing that the change makes of old."""
    cells = []
    for piece in change:
        if piece[0] == "keep":
            cells.extend(old[piece[1]:piece[1] + piece[2]])
        else:
            cells.extend(piece[1])
    return tuple(cells)


def whole_size(thing):
    """What a thing takes, kept whole."""
    return 1 + len(thing)


def change_size(change):
    """What a change takes."""
    return 1 + sum([2 if piece[0] == "keep" else 1 + len(piece[1]) for piece in change])


def least_change(old, new):
    """The change of least size that makes new of old; of several the first as tuples rise."""
    sizes = least_sizes(old, new)
    pieces = []
    place = 0
    while place < len(new):
        # Every keep is ahead of every put, as the words rise.
        piece = first_keep(old, new, sizes, place) or first_put(new, sizes, place)
        pieces.append(piece)
        place += made_by(piece)
    return tuple(pieces)


def least_sizes(old, new):
    """For each place of new, and for its end: the least that pieces take that make new from there on."""
    sizes = [0] * (len(new) + 1)
    runs = [0] * len(old)
    # The least for what is behind the place, where a put of the place itself may go on.
    put_on = 0
    for place in reversed(range(len(new))):
        # A run: how far old, from each of its places on, is as new from this place on.
        behind = runs[1:] + [0]
        runs = [run + 1 if cell == new[place] else 0 for cell, run in zip(old, behind)]
        sizes[place] = 2 + put_on
        longest = max(runs, default=0)
        if longest > 0:
            # What is left of new never takes more for being shorter, so the longest keep is enough.
            sizes[place] = min(sizes[place], 2 + sizes[place + longest])
        put_on = min(sizes[place], 1 + put_on)
    return sizes


def first_keep(old, new, sizes, place):
    """The first keep, as tuples rise, with which a least change of new goes on at place; None without one."""
    for at in range(len(old)):
        many = 0
        while at + many < len(old) and place + many < len(new) and old[at + many] == new[place + many]:
            many += 1
            if 2 + sizes[place + many] == sizes[place]:
                return ("keep", at, many)
    return None


def first_put(new, sizes, place):
    """The first put with which a least change of new goes on at place, where no keep does."""
    many = 1
    while 1 + many + sizes[place + many] != sizes[place]:
        many += 1
    return ("put", new[place:place + many])


def made_by(piece):
    """How many cells a piece makes."""
    return piece[2] if piece[0] == "keep" else len(piece[1])


def joined(one, other):
    """The change that makes at once what one makes, and then other of that."""
    starts = piece_starts(one)
    pieces = []
    for piece in other:
        parts = cut(one, starts, piece[1], piece[2]) if piece[0] == "keep" else [piece]
        for part in parts:
            add_piece(pieces, part)
    return tuple(pieces)


def piece_starts(change):
    """The list with for each piece the place, in what the change makes, at which it begins."""
    starts = []
    place = 0
    for piece in change:
        starts.append(place)
        place += made_by(piece)
    return starts


def piece_over(starts, place):
    """The number of the piece that makes the cell at place."""
    low = 0
    high = len(starts)
    while high - low > 1:
        middle = (low + high) // 2
        if starts[middle] <= place:
            low = middle
        else:
            high = middle
    return low


def cut(change, starts, at, many):
    """The list of what the change's pieces have for many cells, from place at on, of what it makes."""
    parts = []
    number = piece_over(starts, at)
    end = at + many
    while at < end:
        piece = change[number]
        skipped = at - starts[number]
        taken = min(made_by(piece) - skipped, end - at)
        parts.append(part_of(piece, skipped, taken))
        at += taken
        number += 1
    return parts


def part_of(piece, skipped, taken):
    """The piece for so many of a piece's cells, those ahead of them being skipped."""
    if piece[0] == "keep":
        return ("keep", piece[1] + skipped, taken)
    return ("put", piece[1][skipped:skipped + taken])


def add_piece(pieces, piece):
    """Add the piece behind the others, put together with the last of them where both go on as one."""
    if not pieces or pieces[-1][0] != piece[0]:
        pieces.append(piece)
        return
    last = pieces[-1]
    if piece[0] == "put":
        pieces[-1] = ("put", last[1] + piece[1])
    elif last[1] + last[2] == piece[1]:
        pieces[-1] = ("keep", last[1], last[2] + piece[2])
    else:
        pieces.append(piece)
