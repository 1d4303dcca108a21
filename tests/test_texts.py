import itertools
import random
import unittest

from honeyturns.errors import BadText
from honeyturns.hills import is_hill
from honeyturns.texts import hill_in, hill_text

import plain

HILL = (((12, True), (0, False)), (5, 3), 8)
OTHER = (((12, True), (0, False)), (5, 4), 7)
TEXT = "pot 8\nopen 12\nshut 0\nant 5\nant 3"
SIGNS = "".join(chr(sign) for sign in range(32, 127))


def plain_number(word, least):
    """The number of a word, by its signs; None of a word that isn't so written."""
    if word not in {str(number) for number in range(200)}:
        long = word.isascii() and word.isdigit() and len(word) <= 41 and word[0] in "123456789"
        return int(word) if long and int(word) >= least else None
    return int(word) if int(word) >= least else None


def plain_row(row):
    """The word and the number of a row of a hill's text; None of another row."""
    for word, least in (("pot", 0), ("open", 0), ("shut", 0), ("ant", 1)):
        if row.startswith(word + " "):
            number = plain_number(row[len(word) + 1:], least) if row[len(word) + 1:] else None
            return None if number is None else (word, number)
    return None


def plain_hill_in(text):
    """The hill of a text, or the number of the row that the refusal tells."""
    rows = [plain_row(row) for row in text.split("\n")]
    year, needs = [], []
    for at, row in enumerate(rows):
        if row is None or (row[0] == "pot") != (at == 0) or (row[0] in ("open", "shut") and needs):
            return at
        if row[0] == "ant":
            needs.append(row[1])
        elif row[0] != "pot":
            year.append((row[1], row[0] == "open"))
    hill = (tuple(year), tuple(needs), rows[0][1])
    return hill if is_hill(hill) else len(rows)


def hill_or_row(text):
    try:
        return hill_in(text)
    except BadText as refusal:
        return refusal.row


class Texts(unittest.TestCase):
    def bad(self, text, row):
        with self.assertRaises(BadText) as caught:
            hill_in(text)
        self.assertEqual(plain.kinds(caught.exception.row), plain.kinds(row), repr(text))

    def beside_plain(self, text):
        self.assertEqual(plain.kinds(hill_or_row(text)), plain.kinds(plain_hill_in(text)), repr(text))

    def test_back_and_forth(self):
        for hill in plain.HILLS + tuple(plain.small_hills()) + plain.GREAT + (HILL, OTHER):
            text = hill_text(hill)
            self.assertEqual(plain.kinds(hill_in(text)), plain.kinds(hill))
            self.assertEqual(hill_text(hill_in(text)), text)

    def test_by_hand(self):
        self.assertEqual(hill_text(HILL), TEXT)
        self.assertEqual(plain.kinds(hill_in(TEXT)), plain.kinds(HILL))
        self.assertEqual(hill_in("pot 0\nshut 7\nopen 0\nant 1"), (((7, False), (0, True)), (1,), 0))
        self.assertEqual(hill_text(((((10 ** 12, True),)), (10 ** 12,), 10 ** 40)), f"pot {10 ** 40}\nopen {10 ** 12}\nant {10 ** 12}")

    def test_spoilt_sign_by_sign(self):
        for text in (TEXT, hill_text(plain.DRY_OPEN_DAYS), "pot 10\nopen 10\nant 10"):
            for at in range(len(text) + 1):
                for sign in SIGNS + "\n\t\r":
                    self.beside_plain(text[:at] + sign + text[at:])
                    self.beside_plain(text[:at] + sign + text[at + 1:])
                self.beside_plain(text[:at] + text[at + 1:])

    def test_spoilt_row_by_row(self):
        for text in (TEXT, hill_text(plain.DRY_OPEN_DAYS), hill_text(plain.THREE_DAYS)):
            rows = text.split("\n")
            for at in range(len(rows) + 1):
                self.beside_plain("\n".join(rows[:at]))
                self.beside_plain("\n".join(rows[:at] + rows[at + 1:]))
                for row in ("", "pot 3", "open 2", "shut 2", "ant 2", "ant 0", "open 0", "shut 0", "begin 0 0 0", "go 1", " "):
                    self.beside_plain("\n".join(rows[:at] + [row] + rows[at:]))
                    self.beside_plain("\n".join(rows[:at] + [row] + rows[at + 1:]))

    def test_any_few_rows(self):
        kinds = ("pot 1", "open 2", "open 0", "shut 3", "shut 0", "ant 1", "")
        for many in range(1, 6):
            for rows in itertools.product(kinds, repeat=many):
                self.beside_plain("\n".join(rows))

    def test_what_lacks_is_told_by_how_many_rows_there_are(self):
        self.bad("pot 3", 1)
        self.bad("pot 3\nopen 2", 2)
        self.bad("pot 3\nopen 0\nshut 0\nant 2", 4)
        self.bad("pot 3\nshut 1\nshut 4\nant 2", 4)
        # Days lack, though it's an ant's row that shows it.
        self.bad("pot 3\nant 2", 2)
        self.bad("pot 3\nant 2\nant 4", 3)

    def test_the_first_row_that_is_not_so_written_or_can_not_stand_there(self):
        self.bad("pot 3\nant 2\nopen 4", 2)
        self.bad("pot 3\nopen 2\nant 1\nshut 4\nant", 3)
        self.bad("pot 3\nopen 2\npot 3\nant 1", 2)
        self.bad("open 2\npot 3\nant 1", 0)
        self.bad("ant 1", 0)
        self.bad("pot 3\nopen 0\nant 0", 2)

    def test_bare_texts_and_line_feeds(self):
        self.bad("", 0)
        self.bad("\n", 0)
        self.bad(" ", 0)
        self.bad(TEXT + "\n", 5)
        self.bad(TEXT + "\n\n", 5)
        self.bad("\n" + TEXT, 0)
        self.bad(TEXT.replace("\nant 5", "\n\nant 5"), 3)
        self.bad(TEXT.replace("\n", "\r\n"), 0)
        self.bad(TEXT.replace("\n", "\r"), 0)
        for feed in "\x0b\x0c\x1c\x1d\x1e\x85\u2028\u2029":
            self.bad(TEXT.replace("\nant 3", feed + "ant 3"), 3)

    def test_blanks(self):
        for row, text in enumerate(TEXT.split("\n")):
            for spoilt in (" " + text, text + " ", text.replace(" ", "  "), text.replace(" ", ""), text.replace(" ", "\t"),
                           text.replace(" ", "\xa0"), text + " 1", text.split(" ")[0], text.upper()):
                rows = TEXT.split("\n")
                rows[row] = spoilt
                self.bad("\n".join(rows), row)

    def test_figures(self):
        for word in ("00", "01", "010", "-1", "-0", "+1", "1.0", "1_0", "0x1", "1e3", "a", "", "(1)", "1,0", "\u0661", "\u00b2",
                     "\uff11", "1\u0661", "\u09ea", "\u2460", "\u4e00"):
            self.bad(f"pot {word}\nopen 1\nant 1", 0)
            self.bad(f"pot 1\nopen {word}\nant 1", 1)
            self.bad(f"pot 1\nshut {word}\nopen 1\nant 1", 1)
            self.bad(f"pot 1\nopen 1\nant {word}", 2)
        self.bad("pot 1\nopen 1\nant 0", 2)

    def test_forty_one_figures(self):
        for number in (10 ** 40, 10 ** 41 - 1, 3 * 10 ** 40 + 7):
            hill = (((number, True), (number, False)), (number, number), number)
            self.assertEqual(plain.kinds(hill_in(hill_text(hill))), plain.kinds(hill))
        for word in ("1" + "0" * 41, "9" * 42, "9" * 60, "0" * 42, "0" * 41, "0" + "9" * 40):
            self.bad(f"pot {word}\nopen 1\nant 1", 0)
            self.bad(f"pot 1\nopen {word}\nant 1", 1)
            self.bad(f"pot 1\nopen 1\nshut {word}\nant 1", 2)
            self.bad(f"pot 1\nopen 1\nant {word}", 2)
        self.bad(f"pot {'7' * 5000}\nopen 1\nant 1", 0)

    def test_any_texts(self):
        chance = random.Random(1)
        for _ in range(2000):
            parts = [chance.choice(("pot", "open", "shut", "ant", "1", "0", "12", " ", " ", " ", "\n", "\n", "x"))
                     for _ in range(chance.randrange(12))]
            self.beside_plain("".join(parts))
        for text in ("\u00e9", "pot \U0001f41c", "\x00", "pot 1\x00", TEXT + "\x00", TEXT + "\u00e9"):
            self.beside_plain(text)

    def test_sixty_rows(self):
        hill = (((10 ** 12, True),) * 29 + ((0, False),), (10 ** 12,) * 29, 10 ** 12)
        self.assertEqual(hill_in(hill_text(hill)), hill)
        rows = hill_text(hill).split("\n")
        for at in range(60):
            self.bad("\n".join(rows[:at] + ["x" * 200] + rows[at + 1:]), at)


class HandedIn(unittest.TestCase):
    def test_asking(self):
        plain.check_asking(self, hill_text, ("hill",), (HILL,), OTHER)
        self.assertEqual((hill_in(text=TEXT), hill_text(hill=HILL)), (HILL, TEXT))
        for hill in plain.with_lists(HILL):
            self.assertEqual(hill_text(hill), TEXT)


if __name__ == "__main__":
    unittest.main()
