import itertools
import random
import unittest

from honeyturns import errors
from honeyturns.desk import answers
from honeyturns.errors import BadRow
from honeyturns.far import behind, gone_by
from honeyturns.hills import open_from
from honeyturns.losses import next_loss
from honeyturns.rounds import pace
from honeyturns.sparing import lost_in_all, spares
from honeyturns.texts import hill_text
from honeyturns.vine import Vine

import plain

HILL = (((12, True), (0, False)), (5, 3), 8)
OTHER = (((12, True), (0, False)), (5, 4), 7)
HEAD = "pot 8\nopen 12\nshut 0\nant 5\nant 3"
BEGUN = HEAD + "\nbegin 0 0 0"
FAR = 10 ** 40
DEEDS = {"go": 1, "pour": 1, "dip": 1, "weather": 2, "unlock": 1, "lock": 1, "need": 2, "adopt": 2, "part": 1, "pot": 1,
         "undo": 0}
ASKS = {"state": 0, "lost": 0, "gone": 0, "spares": 0, "pace": 0, "next": 0, "ever": 0, "far": 1, "by": 1}
REFUSALS = (errors.Already, errors.Barren, errors.Dry, errors.Last, errors.NoAnt, errors.NoDay, errors.Today)


def asked(*rows):
    return answers("\n".join((BEGUN,) + rows))


def plain_answer(vine, row):
    """A row's answer, by the vine and the functions."""
    word, *numbers = row.split(" ")
    numbers = [int(number) for number in numbers]
    hill, state = vine.hill(), vine.state()
    if word in DEEDS:
        try:
            told = getattr(vine, word)(*numbers)
        except REFUSALS as refusal:
            return "refused " + type(refusal).__name__
        return {None: "done", True: "yes", False: "no"}[told] if told is None or word == "undo" else str(told)
    if word in ("lost", "gone"):
        return str(getattr(vine, word)())
    if word == "spares":
        return "yes" if spares(hill) else "no"
    if word == "by":
        return "-" if numbers[0] < state[0] else str(gone_by(hill, state, numbers[0]))
    loss = next_loss(hill, state)
    told = {
        "state": state, "pace": pace(hill), "next": loss and (loss[0], loss[2]), "ever": lost_in_all(hill, state),
        "far": word == "far" and behind(hill, state, numbers[0]),
    }[word]
    if told is None:
        return "-"
    return " ".join(str(number) for number in told) if isinstance(told, tuple) else str(told)


def some_row(chance, day):
    word = chance.choice(list(DEEDS) + list(ASKS))
    if word == "by":
        return f"by {max(0, day + chance.choice((-1, 0, 0, 1, 7, FAR)))}"
    if word == "far":
        return f"far {chance.choice((0, 1, 5, FAR))}"
    numbers = [chance.choice((0, 1, 1, 2, 3, 9)) for _ in range((DEEDS | ASKS)[word])]
    if word in ("need", "adopt"):
        numbers[1] = max(1, numbers[1])
    return " ".join([word] + [str(number) for number in numbers])


class Answers(unittest.TestCase):
    def test_beside_the_vine_and_the_functions(self):
        chance = random.Random(1)
        refused, words = set(), set()
        for hill in plain.HILLS + tuple(plain.small_hills()[::13]) + (HILL, OTHER) + plain.GREAT:
            state = chance.choice(plain.some_states(hill))
            vine, rows, expected = Vine(hill, state), [], []
            for _ in range(chance.randrange(25)):
                rows.append(some_row(chance, vine.state()[0]))
                expected.append(plain_answer(vine, rows[-1]))
                words.add(rows[-1].split(" ")[0])
                if expected[-1].startswith("refused"):
                    refused.add(expected[-1])
            text = "\n".join([hill_text(hill), "begin " + " ".join(str(number) for number in state)] + rows)
            self.assertEqual(plain.kinds(answers(text)), plain.kinds(expected), text)
        self.assertEqual(refused, {"refused " + refusal.__name__ for refusal in REFUSALS})
        self.assertEqual(words, set(DEEDS | ASKS))

    def test_by_hand(self):
        told = asked("state", "go 3", "state", "lost", "gone", "next", "ever", "spares", "pace", "by 3", "by 4", "far 3")
        self.assertEqual(told, ["0 0 0", "3", "4 1 8", "3", "3", "3 1", "-", "no", "4 3", "-", "2", "6 0 8"])

    def test_what_is_told_of_deeds(self):
        self.assertEqual(asked("go 0", "go 1", "go 2", f"go {FAR}")[:3], ["0", "0", "3"])
        self.assertEqual(asked("pour 3", "pour 9", "pot 6", "pot 9"), ["0", "4", "2", "0"])
        self.assertEqual(asked("pour 3", "dip 2", "weather 1 4", "unlock 1", "lock 1", "need 0 2", "adopt 2 9", "part 0"),
                         ["0"] + ["done"] * 7)
        self.assertEqual(asked("undo", "go 1", "undo", "undo", "gone"), ["no", "0", "yes", "no", "0"])

    def test_what_is_told_of_asks(self):
        spared = "\n".join(("pot 10", "open 12", "ant 5", "ant 3", "begin 4 1 0"))
        self.assertEqual(answers(spared + "\nspares\npace\nnext\never\nlost\ngone"), ["yes", "3 2", "-", "0", "0", "0"])
        # A number may be of more than 41 figures.
        told = asked("weather 0 " + "9" * 41, "pot 0", "far " + "9" * 41, "pour " + "9" * 41, "pour 1", "lost")
        self.assertEqual(told[3:], ["9" * 41, "1", "1" + "0" * 41])
        self.assertEqual([len(number) for number in told[2].split(" ")], [42, 1, 1])

    def test_by_a_day_gone_by(self):
        self.assertEqual(asked("by 0", "by 1", "go 1", "by 0", "by 1", "by 2", "undo", "by 0"),
                         ["0", "0", "0", "-", "-", "1", "yes", "0"])

    def test_refusals_and_the_rest_goes_on(self):
        told = asked("dip 1", "weather 2 1", "weather 0 0", "unlock 2", "unlock 0", "lock 2", "lock 1", "lock 0", "need 2 1",
                     "adopt 3 1", "part 2", "part 0", "part 1", "part 0", "go 1", "undo", "gone")
        self.assertEqual(told, ["refused " + name for name in (
            "Dry", "NoDay", "Barren", "NoDay", "Already", "NoDay", "Already", "Today", "NoAnt", "NoAnt", "NoAnt",
        )] + ["done", "refused NoAnt", "refused Last", "1", "yes", "0"])
        # A refused deed doesn't stand, so nothing is undone.
        self.assertEqual(asked("dip 1", "undo", "part 5", "undo"), ["refused Dry", "no", "refused NoAnt", "no"])

    def test_numbers_of_days_and_ants_may_be_any(self):
        great = "9" * 41
        self.assertEqual(asked(f"weather {great} 1", f"unlock {great}", f"lock {great}"), ["refused NoDay"] * 3)
        self.assertEqual(asked(f"need {great} 1", f"adopt {great} 1", f"part {great}"), ["refused NoAnt"] * 3)

    def test_nothing_asked(self):
        self.assertEqual(plain.kinds(answers(BEGUN)), "[]")

    def test_begins(self):
        for hill in plain.HILLS:
            for state in plain.some_states(hill):
                words = " ".join(str(number) for number in state)
                self.assertEqual(answers(f"{hill_text(hill)}\nbegin {words}\nstate"), [words])
        day = str(2 * (10 ** 40 + 3))
        self.assertEqual(answers(f"{HEAD}\nbegin {day} 1 8\nstate\nby {day}"), [day + " 1 8", "2"])


class Refused(unittest.TestCase):
    def bad(self, text, row):
        with self.assertRaises(BadRow) as caught:
            answers(text)
        self.assertEqual(plain.kinds(caught.exception.row), plain.kinds(row), repr(text))

    def test_words_and_figures(self):
        great = "1" + "0" * 41
        for word, many in (DEEDS | ASKS).items():
            right = " ".join([word] + ["1"] * many)
            self.assertEqual(len(asked("state", right, "gone")), 3)
            spoilt = [right + " 1", " " + right, right + " ", right.upper(), word + "x", right.replace(" ", "  "), right + "\t"]
            for at in range(many):
                for figures in ("", "01", "00", "-1", "+1", "x", great, "\u0661", "1.0", "0" * 42):
                    numbers = ["1"] * many
                    numbers[at] = figures
                    spoilt.append(" ".join([word] + numbers))
                spoilt.append(" ".join([word] + ["1"] * at))
            for row in spoilt:
                if row != right:
                    for rows in (("state", row, "gone"), ("state", row), ("state", "go 1", row)):
                        self.bad("\n".join((BEGUN,) + rows), 6 + rows.index(row))

    def test_needs_from_one(self):
        for row in ("need 0 0", "adopt 0 0", "need 7 0", "adopt 7 0"):
            self.bad(f"{BEGUN}\nundo\n{row}\nstate", 7)
        self.assertEqual(asked("need 0 1", "adopt 0 1", "go 0", "pour 0", "dip 0", "weather 1 0", "pot 0"),
                         ["done", "done", "0", "0", "done", "done", "0"])

    def test_rows_that_are_not_due_there(self):
        for row in ("begin 0 0 0", "open 3", "shut 0", "ant 3", "", " ", "log", "hill", "deeds", "forecast 3", "as_of 0",
                    "twin", "even", "undo 1", "state 0", "Go 1"):
            self.bad(f"{BEGUN}\ngo 1\n{row}\ngone", 7)
            self.bad(f"{BEGUN}\n{row}", 6)
        for row in ("go 1", "state", "pot 3", "", "undo", "begin", "begin 0 0", "begin 0 0 0 0", "begin 0 0 x", "begin  0 0 0",
                    "begin 00 0 0", "begin 0 0 -1", "xyz", "Begin 0 0 0"):
            self.bad(f"{HEAD}\n{row}\nbegin 0 0 0\ngone", 5)
            self.bad(f"{HEAD}\n{row}", 5)
        self.bad(f"{HEAD}\nopen 3\nbegin 0 0 0", 5)
        self.bad(f"{HEAD}\nshut 3\nbegin 0 0 0\nxyz", 5)
        for row in ("", "open 1", "pot", "pot x", "pot 01", "begin 0 0 0", "ant 1"):
            self.bad(row, 0)
            self.bad(f"{row}\n{BEGUN}\nxyz", 0)

    def test_hills_rows_spoilt(self):
        rows = BEGUN.split("\n")
        for at, row in enumerate(rows):
            for spoilt in (row + "x", row + " ", " " + row, row.split(" ")[0], row + " 1", row.replace(" ", " 0"), "state"):
                self.bad("\n".join(rows[:at] + [spoilt] + rows[at + 1:] + ["state", "xyz"]), at)

    def test_begins_that_are_no_states(self):
        for begin in ("1 0 0", "3 0 0", f"{2 * FAR + 1} 0 0", "0 2 0", f"0 {FAR} 0", "0 0 9", f"0 1 {FAR}"):
            for more in ("", "\ngo 1", "\nxyz", "\n"):
                self.bad(f"{HEAD}\nbegin {begin}{more}", 5)
        self.assertEqual(answers(f"{HEAD}\nbegin {2 * FAR} 1 8"), [])

    def test_hills_that_lack_something(self):
        heads = (
            "pot 3", "pot 3\nopen 1", "pot 3\nant 1", "pot 3\nshut 1\nant 2", "pot 3\nopen 0\nant 1",
            "pot 3\nopen 0\nshut 0\nant 1\nant 2", "pot 3\nshut 0", "pot 0\nant 1\nant 1",
        )
        for head in heads:
            many = len(head.split("\n"))
            # Whatever begins there it can't be a STATE of it, and that isn't asked.
            for begin in ("0 0 0", "7 9 9"):
                self.bad(f"{head}\nbegin {begin}", many + 1)
                self.bad(f"{head}\nbegin {begin}\nstate\ngo 4", many + 3)
                self.bad(f"{head}\nbegin {begin}\nstate\nxyz\ngo 4", many + 2)
                self.bad(f"{head}\nbegin {begin}\n", many + 1)
            self.bad(f"{head}\ngo 1\nbegin 0 0 0", many)
            self.bad(f"{head}\nbegin 0 0\nstate", many)
            self.bad(head, many)

    def test_texts_that_end_ahead_of_begin(self):
        rows = HEAD.split("\n")
        for many in range(1, len(rows) + 1):
            self.bad("\n".join(rows[:many]), many)
            self.bad("\n".join(rows[:many]) + "\n", many)
        self.bad("", 0)
        self.bad("\n", 0)

    def test_rows_that_can_not_stand_in_the_hill(self):
        self.bad("pot 3\nant 1\nopen 4\nant 1\nbegin 0 0 0", 2)
        self.bad("pot 3\nopen 4\nant 1\nshut 4\nbegin 0 0 0", 3)
        self.bad("pot 3\nopen 4\npot 3\nant 1\nbegin 0 0 0", 2)
        self.bad("pot 3\nopen 4\nant 0\nbegin 0 0 0", 2)

    def test_no_deed_is_done_where_a_row_is_bad(self):
        # The first bad row is told, whatever a deed ahead of it would be refused with.
        self.bad(f"{BEGUN}\ndip 3\npart 9\nlock 0\nxyz\nneed 0 0", 9)
        for many in range(1, 20):
            self.bad("\n".join([BEGUN] + ["go 1"] * many + ["go"]), 6 + many)

    def test_few_rows_of_any_kind(self):
        kinds = {"pot 1": "p", "open 2": "d", "ant 1": "a", "begin 0 0 1": "b", "go 1": "t", "": "x"}
        for many in range(1, 7):
            for rows in itertools.product(kinds, repeat=many):
                told = self.plain_told("".join(kinds[row] for row in rows))
                text = "\n".join(rows)
                if told is None:
                    self.assertEqual(len(answers(text)), many - 1 - rows.index("begin 0 0 1"))
                else:
                    self.bad(text, told)

    def plain_told(self, kinds):
        """The row that the refusal tells, None where all is right: pot's row is a deed's behind begin."""
        stage = "begin"
        due = {"begin": "p", "p": "dab", "d": "dab", "a": "ab", "b": "tp", "t": "tp"}
        for at, kind in enumerate(kinds):
            if kind not in due[stage]:
                return at
            stage = "t" if stage in "bt" else kind
        right = "d" in kinds and "a" in kinds and "b" in kinds
        return None if right else len(kinds)


class HandedIn(unittest.TestCase):
    def test_by_name_and_told_again(self):
        text = f"{BEGUN}\ngo 3\nstate"
        told = answers(text=text)
        self.assertEqual(told, ["3", "4 1 8"])
        plain.spoil(told)
        self.assertEqual(answers(text), ["3", "4 1 8"])
        self.assertIsNot(answers(BEGUN), answers(BEGUN))

    def test_sixty_rows(self):
        for hill in plain.GREAT:
            day = open_from(hill, FAR)
            rows = hill_text(hill).split("\n") + [f"begin {day} 0 {hill[2]}"]
            vine = Vine(hill, (day, 0, hill[2]))
            asks = (["far " + "9" * 41, "go 7", "next", "ever", "pace"] * 12)[:60 - len(rows)]
            self.assertEqual(answers("\n".join(rows + asks)), [plain_answer(vine, row) for row in asks])


if __name__ == "__main__":
    unittest.main()
