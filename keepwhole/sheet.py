"""Sheets: rows that tell a shelf what to do, and the texts of its answers."""

from keepwhole.changes import least_change
from keepwhole.errors import BadRow, Loop, NoMake
from keepwhole.leastroom import least_room
from keepwhole.reading import least_reads
from keepwhole.shelf import Shelf

MOST_PUTS = 12
MOST_CELLS = 24
MOST_CELL = 999
MOST_FIGURES = 4

# How many makes stand behind the word; put has cells.
MAKES = {
    "rest": 2, "whole": 1, "fetch": 1, "forget": 1, "tidy": 0, "undo": 0, "room": 0, "way": 1, "makes": 0,
    "change": 2, "least": 0, "reads": 0,
}


def run(text):
    """The list of the answers of a shelf, a text for each row that isn't empty."""
    rows = read_rows(text)
    shelf = Shelf()
    return [answer(shelf, word, numbers) for word, numbers in rows]


def read_rows(text):
    """The list of pairs (word, numbers) of the rows that aren't empty; the first wrong row is refused."""
    rows = []
    puts = 0
    for number, line in enumerate(text.split("\n")):
        if line == "":
            continue
        word, *others = line.split(" ")
        if word == "put":
            puts += 1
        if puts > MOST_PUTS or not is_row(word, others):
            raise BadRow(number)
        rows.append((word, [int(other) for other in others]))
    return rows


def is_row(word, others):
    """Whether a row of this word and the others behind it is rightly written."""
    if not all([is_written_number(other) for other in others]):
        return False
    if word == "put":
        return len(others) <= MOST_CELLS and all([int(other) <= MOST_CELL for other in others])
    return word in MAKES and len(others) == MAKES[word]


def is_written_number(word):
    """Whether a word is a number of plain figures, without a nought ahead."""
    if not all([sign in "0123456789" for sign in word]) or not 1 <= len(word) <= MOST_FIGURES:
        return False
    return word == "0" or word[0] != "0"


def listed(numbers):
    return " ".join([str(number) for number in numbers]) or "-"


def put_row(shelf, cells):
    return str(shelf.put(tuple(cells)))


def rest_row(shelf, makes):
    return str(shelf.rest(makes[0], makes[1]))


def whole_row(shelf, makes):
    return str(shelf.rest(makes[0], None))


def fetch_row(shelf, makes):
    thing, read = shelf.fetch(makes[0])
    return " ".join([str(cell) for cell in thing] + [":", str(read)])


def forget_row(shelf, makes):
    return listed(shelf.forget(makes[0]))


def tidy_row(shelf, makes):
    ahead, behind = shelf.tidy()
    return f"{ahead} -> {behind}"


def undo_row(shelf, makes):
    return shelf.undo() or "none"


def room_row(shelf, makes):
    return str(shelf.room_now())


def way_row(shelf, makes):
    return listed(shelf.way_now(makes[0]))


def makes_row(shelf, makes):
    return listed(shelf.makes_now())


def change_row(shelf, makes):
    change = least_change(shelf.thing_now(makes[0]), shelf.thing_now(makes[1]))
    return " ; ".join([piece_text(piece) for piece in change]) or "-"


def piece_text(piece):
    if piece[0] == "keep":
        return f"keep {piece[1]} {piece[2]}"
    return f"put {listed(piece[1])}"


def least_row(shelf, makes):
    return str(least_room(shelf.stock_now())[0])


def reads_row(shelf, makes):
    return listed(least_reads(shelf.stock_now()))


ANSWERS = {
    "put": put_row, "rest": rest_row, "whole": whole_row, "fetch": fetch_row, "forget": forget_row, "tidy": tidy_row,
    "undo": undo_row, "room": room_row, "way": way_row, "makes": makes_row, "change": change_row, "least": least_row,
    "reads": reads_row,
}


def answer(shelf, word, numbers):
    """The text of what the shelf answers to a row."""
    act = ANSWERS[word]
    try:
        return act(shelf, numbers)
    except NoMake:
        return "no make"
    except Loop:
        return "loop"
