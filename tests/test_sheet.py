"""sheet.py: promise [16], and what [1] and [2] say of it."""

import random
import unittest

from keepwhole.changes import least_change
from keepwhole.errors import BadRow, KeepError, Loop, NoMake
from keepwhole.leastroom import least_room
from keepwhole.reading import least_reads
from keepwhole.shelf import Shelf
from keepwhole.sheet import run
from tests.helper import told

WORDS = {
    "put": (), "rest": (2,), "whole": (1,), "fetch": (1,), "forget": (1,), "tidy": (0,), "undo": (0,), "room": (0,),
    "way": (1,), "makes": (0,), "change": (2,), "least": (0,), "reads": (0,)}

# A sheet with each word, all of it rightly written.
RIGHT = """put 1 2 3
put 1 2 3 4 5 6
put
rest 1 0
whole 0
fetch 1
change 0 1
way 1
makes
least
reads
room
tidy
forget 2
undo"""


def several(numbers):
    return " ".join(str(number) for number in numbers) if numbers else "-"


def pieces(change):
    texts = []
    for piece in change:
        texts.append(several(piece) if piece[0] == "keep" else "put " + several(piece[1]))
    return " ; ".join(texts) if texts else "-"


def fetched(thing, read):
    return f"{several(thing)} : {read}" if thing else f": {read}"


def played(row, shelf):
    """The answer to a row by a shelf that is asked it straight."""
    word, *numbers = [int(part) if part.isdigit() else part for part in row.split()]
    ask = {
        "put": lambda: str(shelf.put(tuple(numbers))), "rest": lambda: str(shelf.rest(*numbers)),
        "whole": lambda: str(shelf.rest(*numbers, None)), "fetch": lambda: fetched(*shelf.fetch(*numbers)),
        "forget": lambda: several(shelf.forget(*numbers)), "tidy": lambda: " -> ".join(map(str, shelf.tidy())),
        "undo": lambda: str(shelf.undo()).lower(), "room": lambda: str(shelf.room_now()),
        "way": lambda: several(shelf.way_now(*numbers)), "makes": lambda: several(shelf.makes_now()),
        "change": lambda: pieces(least_change(*[shelf.fetch(number)[0] for number in numbers])),
        "least": lambda: str(least_room(shelf.stock_now())[0]),
        "reads": lambda: several(least_reads(shelf.stock_now())),
    }[word]
    try:
        return ask()
    except NoMake:
        return "no make"
    except Loop:
        return "loop"


class Sheets(unittest.TestCase):
    def answers(self, *rows):
        """The answers to the rows, their kinds looked at."""
        answers = told(self, run, "\n".join(rows))
        self.assertIs(type(answers), list)
        self.assertLessEqual({type(answer) for answer in answers}, {str})
        return answers

    def bad(self, text, row):
        """The refusal, with the number of the row."""
        for _ in range(2):
            with self.assertRaises(BadRow) as caught:
                run(text)
            self.assertIs(type(caught.exception), BadRow, text)
            self.assertIsInstance(caught.exception, KeepError)
            self.assertEqual((caught.exception.row, type(caught.exception.row)), (row, int), text)

    def bad_row(self, row):
        """A row that is wrong wherever it stands: alone, ahead of right ones, behind them, among empty ones."""
        self.bad(row, 0)
        self.bad(f"{row}\n{RIGHT}", 0)
        self.bad(f"{RIGHT}\n{row}", RIGHT.count("\n") + 1)
        self.bad(f"\n\n{row}\n", 2)


class Answers(Sheets):
    def test_nothing(self):
        self.assertEqual(self.answers(""), [])
        for many in (1, 2, 79):
            self.assertEqual(self.answers("\n" * many), [])

    def test_without_makes(self):
        self.assertEqual(self.answers("room", "makes", "least", "reads", "tidy", "undo", "undo"),
                         ["0", "-", "0", "-", "0 -> 0", "tidy", "none"])
        for row in ["rest 0 1", "rest 0 0", "whole 0", "fetch 0", "forget 0", "way 0", "change 0 0", "way 9999"]:
            self.assertEqual(self.answers(row), ["no make"])

    def test_put(self):
        self.assertEqual(self.answers("put 1 2 3", "put", "put 0", "put 999", "put 1 2 3"), list("01234"))
        cells = " ".join(["999"] * 24)
        self.assertEqual(self.answers(f"put {cells}", "fetch 0"), ["0", f"{cells} : 25"])
        self.assertEqual(self.answers("put 0 0 10 100", "fetch 0"), ["0", "0 0 10 100 : 5"])
        self.assertEqual(self.answers(*["put 7"] * 12), [str(make) for make in range(12)])

    def test_fetch(self):
        self.assertEqual(self.answers("put 1 2 3", "put", "fetch 0", "fetch 1", "fetch 2", "rest 1 0", "fetch 1"),
                         ["0", "1", "1 2 3 : 4", ": 1", "no make", "1", ": 5"])

    def test_rest_and_whole(self):
        self.assertEqual(
            self.answers("put 1 2 3 4 5", "put 1 2 3 4 5 6", "rest 1 0", "way 1", "room", "fetch 1", "whole 1", "way 1",
                         "room", "whole 1", "undo", "undo", "way 1"),
            ["0", "1", "5", "0 1", "11", "1 2 3 4 5 6 : 11", "7", "1", "13", "7", "rest", "rest", "0 1"])

    def test_loop_and_no_make(self):
        self.assertEqual(
            self.answers("put 1", "put 2", "rest 0 0", "rest 1 0", "rest 0 1", "rest 0 2", "rest 2 0", "rest 2 2",
                         "whole 2", "fetch 2", "forget 2", "way 2", "change 0 2", "change 2 0", "change 2 2", "makes"),
            ["0", "1", "loop", "3", "loop"] + ["no make"] * 10 + ["0 1"])

    def test_refused_rows_are_no_deeds(self):
        self.assertEqual(self.answers("put 1", "rest 0 0", "whole 1", "forget 7", "rest 0 7", "undo", "undo"),
                         ["0", "loop", "no make", "no make", "no make", "put", "none"])

    def test_forget(self):
        self.assertEqual(
            self.answers("put 1 2 3 4 5 6", "put 1 2 3 4 5 6", "put 1 2 3 4 5 6", "rest 1 0", "rest 2 0", "forget 0",
                         "makes", "way 1", "way 2", "forget 1", "fetch 2", "forget 0", "forget 2", "makes", "room"),
            ["0", "1", "2", "3", "3", "1 2", "1 2", "2 1", "2", "-", "1 2 3 4 5 6 : 7", "no make", "-", "-", "0"])

    def test_tidy_and_least(self):
        self.assertEqual(
            self.answers("put 1 2 3 4 5 6", "put 1 2 3 4 5 6 7", "least", "tidy", "room", "tidy", "reads", "undo",
                         "undo", "room"),
            ["0", "1", "11", "15 -> 11", "11", "11 -> 11", "7 8", "tidy", "tidy", "15"])

    def test_undo(self):
        self.assertEqual(
            self.answers("undo", "put 4", "undo", "undo", "put 5", "fetch 0", "put 6", "rest 1 0", "tidy", "forget 0",
                         "undo", "undo", "undo", "undo", "undo", "undo", "makes"),
            ["none", "0", "put", "none", "0", "5 : 2", "1", "3", "5 -> 4", "-", "forget", "tidy", "rest", "put", "put",
             "none", "-"])

    def test_change(self):
        self.assertEqual(
            self.answers("put 1 2 3 4 5", "put 9 1 2 3 7 8 5 4 5", "put", "change 0 1", "change 1 0", "change 0 0",
                         "change 0 2", "change 2 0", "change 2 2", "change 1 1"),
            ["0", "1", "2", "put 9 ; keep 0 3 ; put 7 8 5 ; keep 3 2", "keep 1 3 ; keep 7 2", "keep 0 5", "-",
             "put 1 2 3 4 5", "-", "keep 0 9"])

    def test_way_makes_and_reads(self):
        self.assertEqual(
            self.answers("put 1 2 3 4 5", "put 1 2 3 4 6", "put 1 2 3 4 7", "rest 2 1", "rest 1 0", "way 0", "way 1",
                         "way 2", "makes", "reads", "forget 0", "makes", "way 2", "reads"),
            ["0", "1", "2", "5", "5", "0", "0 1", "0 1 2", "0 1 2", "6 6 6", "1", "1 2", "1 2", "6 6"])

    def test_makes_of_four_figures(self):
        self.assertEqual(self.answers("put 1", "fetch 9999", "rest 0 1000", "whole 10", "way 100"),
                         ["0"] + ["no make"] * 4)

    def test_empty_rows_are_passed_over(self):
        self.assertEqual(self.answers("", "put 1", "", "", "makes", ""), ["0", "0"])
        self.assertEqual(run("put 1\n"), ["0"])
        self.assertEqual(run("\nput 1"), ["0"])

    def test_eighty_rows(self):
        self.assertEqual(self.answers(*["room"] * 80), ["0"] * 80)
        self.assertEqual(self.answers(*["put 1", "undo"] * 12, *["undo"] * 56), ["0", "put"] * 12 + ["none"] * 56)

    def test_each_run_has_a_shelf_of_its_own(self):
        self.assertEqual(run("put 1\nput 2"), ["0", "1"])
        self.assertEqual(run("put 1\nmakes"), ["0", "0"])
        self.assertEqual(run("makes\nundo"), ["-", "none"])

    def test_told_lists_are_the_askers_own(self):
        first = run(RIGHT)
        second = run(RIGHT)
        self.assertIsNot(first, second)
        first.clear()
        self.assertEqual(run(RIGHT), second)
        self.assertEqual(len(second), 15)

    def test_by_chance_as_a_shelf_says(self):
        chance = random.Random(150)
        seen = set()
        for _ in range(120):
            rows = []
            puts = 0
            for _ in range(chance.randint(1, 80)):
                word = chance.choice([*WORDS, "put", "put", "rest", "rest", "rest", "undo", "forget", "fetch"])
                if word == "put":
                    puts += 1
                    if puts > 12:
                        continue
                    cells = [chance.choice([1, 2, 3, 999, 0]) for _ in range(chance.choice([0, 1, 3, 8, 8, 12, 24]))]
                    rows.append(" ".join(["put", *map(str, cells)]))
                else:
                    makes = [chance.randrange(puts + 1) for _ in range(WORDS[word][0])]
                    rows.append(" ".join([word, *map(str, makes)]))
                rows += [""] * (chance.randrange(9) == 0)
            shelf = Shelf()
            answers = [played(row, shelf) for row in rows if row]
            self.assertEqual(self.answers(*rows), answers, rows)
            seen |= {(row.split()[0], answer) for row, answer in zip(filter(None, rows), answers)}
        for word, answer in [
            ("rest", "loop"), ("rest", "no make"), ("whole", "no make"), ("fetch", "no make"), ("forget", "no make"),
            ("forget", "-"), ("way", "no make"), ("change", "no make"), ("change", "-"), ("makes", "-"), ("reads", "-"),
            ("undo", "none"), ("undo", "put"), ("undo", "rest"), ("undo", "tidy"), ("undo", "forget"), ("fetch", ": 1"),
        ]:
            self.assertIn((word, answer), seen)


class BadRows(Sheets):
    def test_other_words(self):
        for row in [
            "puts", "pu", "Put 1", "PUT 1", "Tidy", "ROOM", "rest", "1", "0", "1 2", "put1", "tidy.", "-", "none",
            "keep 0 1", "no make", "spent", "stock", "laying", "on 0", "deep 0", "x", "~", "!", "tidy;", "#put",
            "put,1", "'put'", "make", "read", "changes 0 1", "least_room", "None", "wholes 0",
        ]:
            self.bad_row(row)

    def test_words_more_or_fewer(self):
        for word, many in WORDS.items():
            for count in range(4):
                row = " ".join([word] + ["0"] * count)
                if word == "put" or count in many:
                    run(row)
                else:
                    self.bad_row(row)
        for row in ["rest 0 none", "rest 0 None", "rest 0 -", "whole all", "fetch x", "tidy now", "undo put", "put put",
                    "put x", "put 1 x 2", "put 1 2 x", "put x 1", "change 0 to 1", "room room", "put 1 put 2"]:
            self.bad_row(row)

    def test_noughts_ahead(self):
        for number in ("00", "01", "007", "000", "0000", "0001", "0999", "010"):
            for row in [f"put {number}", f"put 1 {number}", f"put {number} 1", f"fetch {number}", f"rest {number} 0",
                        f"rest 0 {number}", f"whole {number}", f"way {number}", f"forget {number}",
                        f"change {number} 0", f"change 0 {number}"]:
                self.bad_row(row)
        for row in ["put 0", "put 0 0", "put 10", "fetch 0", "fetch 10", "rest 0 0", "rest 0 100", "way 1000"]:
            run(row)

    def test_five_figures(self):
        for number in ("10000", "99999", "12345", "00000", "100000", "1" * 190):
            for row in [f"fetch {number}", f"rest {number} 0", f"rest 0 {number}", f"whole {number}", f"way {number}",
                        f"forget {number}", f"change {number} 0", f"change 0 {number}", f"put {number}"]:
                self.bad_row(row)
        run("fetch 9999\nrest 9999 9999\nwhole 9999\nway 9999\nforget 9999\nchange 9999 9999")

    def test_signs_and_other_figures(self):
        for number in ("-1", "+1", "-0", "1.0", "1.", ".5", "1e1", "0x1", "1_0", "1,", "a", "A", "1a", "a1", "(1)",
                       "1-", "--1", "~", "'1'", "*", "#1"):
            for row in [f"put {number}", f"put 1 {number}", f"put {number} 1", f"fetch {number}", f"rest {number} 0",
                        f"rest 0 {number}", f"whole {number}", f"way {number}", f"forget {number}",
                        f"change 0 {number}"]:
                self.bad_row(row)

    def test_blanks_twice_ahead_and_behind(self):
        for row in RIGHT.split("\n"):
            self.bad_row(row + " ")
            self.bad_row(" " + row)
            self.bad_row("  " + row)
            self.bad_row(row + "  ")
            if " " in row:
                self.bad_row(row.replace(" ", "  ", 1))
                self.bad_row("  ".join(row.rsplit(" ", 1)))
                self.bad_row(row.replace(" ", ""))

    def test_rows_of_blanks_alone(self):
        for many in (1, 2, 3, 200):
            self.bad_row(" " * many)

    def test_cells_above_the_most(self):
        for cell in ("1000", "1001", "9999"):
            for row in [f"put {cell}", f"put 1 {cell}", f"put {cell} 1", "put " + "1 " * 23 + cell]:
                self.bad_row(row)
        run("put 999\nput 1 999\nput 999 1")
        # Above 999 a make is only not there.
        self.assertEqual(run("fetch 1000"), ["no make"])

    def test_more_cells_than_the_most(self):
        for many in (25, 26, 40, 99):
            self.bad_row("put" + " 1" * many)
        self.assertEqual(run("put" + " 1" * 24), ["0"])

    def test_the_thirteenth_put(self):
        self.bad("\n".join(["put"] * 13), 12)
        self.bad("\n".join(["put 1"] * 13), 12)
        self.bad("\n".join(["put 1"] * 20), 12)
        self.bad("\n".join(["put 1"] * 12 + ["room", "", "put"]), 14)
        self.bad("\n\n" + "\n\n".join(["put 1"] * 13), 26)
        # Taken back ones and forgotten ones are counted.
        self.bad("\n".join(["put 1", "undo"] * 13), 24)
        self.bad("\n".join(["put 1", "forget 0", "undo", "undo"] * 13), 48)
        self.bad("\n".join(["put 1"] * 12 + ["forget 0", "put 1"]), 13)
        self.bad("\n".join(["put 1"] * 12 + ["undo"] * 12 + ["put 1"]), 24)
        self.assertEqual(len(run("\n".join(["put 1"] * 12 + ["undo"] * 12))), 24)

    def test_the_first_of_several(self):
        for wrong in ["puts", "put 1000", "put" + " 1" * 25, "put 01", "fetch", " "]:
            for other in ["puts", "put 1000", "put" + " 1" * 25, "put 01", "fetch", " "]:
                self.bad(f"room\n{wrong}\n{other}", 1)
                self.bad(f"\n\nroom\n{wrong}\n\n{other}\nroom", 3)
        puts = ["put 1"] * 13
        self.bad("\n".join(puts + ["x"]), 12)
        self.bad("\n".join(["x"] + puts), 0)
        self.bad("\n".join(puts[:12] + ["x"] + puts[:1]), 12)
        self.bad("\n".join(puts[:5] + ["put 1000"] + puts), 5)
        self.bad("\n".join(puts[:12] + ["put 1000"]), 12)

    def test_ahead_of_all_answers(self):
        # Rows that would be refused by a shelf don't come first.
        self.bad("fetch 7\nrest 0 0\nx", 2)
        self.bad("put 1\nrest 0 0\nput 1 2\nfetch 0\nundo x", 4)

    def test_each_row_spoilt_by_one_sign(self):
        """A sign more, less or otherwise, anywhere in a sheet: a row that is still right, or just its number."""
        chance = random.Random(151)
        rows = RIGHT.split("\n")
        for _ in range(400):
            at = chance.randrange(len(rows))
            place = chance.randrange(len(rows[at]) + 1)
            sign = chance.choice(" 0123456789abcxyz-+.~!")
            row = rows[at][:place] + chance.choice([sign, ""]) + rows[at][place + chance.randrange(2):]
            text = "\n".join(rows[:at] + [row] + rows[at + 1:])
            if row == "" or self.is_row(row):
                self.assertEqual(len(run(text)), len(rows) - (row == ""))
            else:
                self.bad(text, at)

    def is_row(self, row):
        """Whether a row is rightly written, by the document's words."""
        word, *others = row.split(" ")
        for other in others:
            if other not in map(str, range(10000)):
                return False
        if word == "put":
            return len(others) <= 24 and all(int(other) <= 999 for other in others)
        return word in WORDS and len(others) in WORDS[word]


if __name__ == "__main__":
    unittest.main()
