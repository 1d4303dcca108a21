"""Far turns, days, windows and classes aren't gone through one by one: each answer takes well under a second."""

import time
import unittest

from honeyturns.back import latest_line, least_pot, pots_seen
from honeyturns.desk import answers
from honeyturns.errors import BadRow, BadText
from honeyturns.far import behind, gone_by, lost_by, lost_until
from honeyturns.hills import open_from, ring_needs, year_drops
from honeyturns.houses import house, joined, led_by
from honeyturns.lines import led, line_of, lost_at, stretches
from honeyturns.losses import losses, next_loss
from honeyturns.pairs import gaps, meeting, rounds_behind
from honeyturns.papers import paper, shows_paper
from honeyturns.pots import enough, least_for, least_sparing, with_pot
from honeyturns.rounds import lost_a_round, pace, round_from
from honeyturns.sparing import common, lost_in_all, spares, sparing
from honeyturns.texts import hill_in, hill_text
from honeyturns.turns import turns
from honeyturns.vine import Vine

import plain

FAR = 10 ** 40
# Many rounds of 10 ** 12 drops a year and one drop less: it's lost at 1 alone, or at all but a few.
SLOW = tuple(
    (((10 ** 12, True), (0, False)) * 6, needs, most)
    for needs in ((10 ** 12 - 1,), (10 ** 12,) * 5 + (10 ** 12 - 1,), (1,), (1, 2, 3))
    for most in (0, 1, 10 ** 12 // 2, 10 ** 12 - 2, 10 ** 12)
)
# All evenings' stretches are narrow, and a ring of needs leads past them as long as can be.
NARROW = (((10 ** 12, True),) * 12, tuple(763932000002 + more for more in (0, 2, 8, 4, 3, 1)), 10 ** 12 - 5)
GREAT = plain.GREAT + SLOW + (NARROW,)


class Speed(unittest.TestCase):
    def quick(self, ask, *handed):
        begun = time.process_time()
        told = ask(*handed)
        self.assertLess(time.process_time() - begun, 1, (ask, handed))
        return told

    def test_a_hill(self):
        for hill in GREAT:
            for ask in (stretches, common, spares, paper, pace, lost_a_round):
                self.quick(ask, hill)
            for ant in range(len(hill[1])):
                self.quick(sparing, hill, ant)
                self.quick(led, hill, ant, -FAR)
            self.quick(lost_at, hill, FAR)
            self.quick(shows_paper, hill, paper(hill))
            self.quick(shows_paper, hill, ("spares", common(hill) - 1))
            rows = [(ant, place) for place in range(len(stretches(hill))) for ant in range(len(hill[1]))]
            self.quick(shows_paper, hill, ("spills", rows))

    def test_a_state(self):
        for hill in GREAT:
            for state in ((0, 0, 0), (open_from(hill, FAR), len(hill[1]) - 1, hill[2] // 3)):
                for ask in (line_of, lost_in_all, next_loss, round_from):
                    self.quick(ask, hill, state)
                self.quick(losses, hill, state, 100)
                for many in (10 ** 13 + 7, FAR, 10 ** 53):
                    self.quick(behind, hill, state, many)
                    self.quick(lost_by, hill, state, many)
                    self.quick(gone_by, hill, state, state[0] + many)
                    self.quick(lost_until, hill, state, state[0] + many)

    def test_back(self):
        for hill in GREAT:
            for day in (open_from(hill, 0), open_from(hill, FAR)):
                self.quick(latest_line, hill, 0, 400, FAR)
                for by in (day, day + 400, day + FAR):
                    self.quick(least_pot, hill, day, 0, 400, by)
                row = [at[0] for at, _ in turns(hill, (day, 0, hill[2] // 2), 60)]
                self.assertIsNotNone(self.quick(pots_seen, hill, day, 0, row))

    def test_pairs(self):
        for hill in GREAT:
            states = [(open_from(hill, day), 0, pot) for day in (0, 5, FAR) for pot in (0, hill[2])]
            for one, other in zip(states, states[1:] + states[:1]):
                self.quick(gaps, hill, one, other, 400)
                self.quick(meeting, hill, one, other)
                self.quick(rounds_behind, hill, one, other)

    def test_pots(self):
        for hill in GREAT:
            rounds, years = year_drops(hill), ring_needs(hill)
            self.quick(with_pot, hill, FAR)
            self.quick(enough, hill)
            self.quick(least_sparing, hill)
            for pace_wanted in ((rounds, years), (rounds * FAR - 1, years * FAR), pace(hill), (1, 3), (1, FAR)):
                self.quick(least_for, hill, *pace_wanted)

    def test_houses(self):
        for hill in GREAT:
            told = self.quick(house, hill, len(hill[1]) - 1, 60)
            for _ in range(3):
                self.quick(led_by, told, FAR)
                told = self.quick(joined, told, told)

    def test_vine(self):
        for hill in GREAT:
            day = open_from(hill, FAR)
            vine = Vine(hill, (day, 0, hill[2]))
            for _ in range(4):
                for deed in (("go", FAR), ("dip", 0), ("pour", FAR), ("weather", 0, FAR), ("need", 0, 10 ** 12 - 1), ("go",),
                             ("unlock", 1), ("adopt", 1, 7), ("lock", 1), ("part", 1), ("pot", 10 ** 12 - 3), ("undo",),
                             ("pot", 10 ** 12 - 2), ("go", 10 ** 20)):
                    try:
                        self.quick(getattr(vine, deed[0]), *deed[1:])
                    except RuntimeError:
                        pass
                for ask, numbers in (("forecast", (100,)), ("as_of", (vine.deeds() // 2,)), ("twin", ()), ("log", ())):
                    self.quick(getattr(vine, ask), *numbers)
                self.assertTrue(self.quick(vine.__eq__, vine.twin()))

    def test_texts(self):
        for hill in GREAT:
            self.assertEqual(self.quick(hill_in, self.quick(hill_text, hill)), hill)
        for row in ("x" * 200, "pot " + "9" * 196, "open " + "0" * 195, " " * 200):
            self.refused(hill_in, "\n".join(["pot 3"] + ["open 3"] * 58 + [row]), BadText)
            self.refused(answers, "\n".join(["pot 3"] + ["open 3"] * 58 + [row]), BadRow)

    def refused(self, ask, text, refusal):
        begun = time.process_time()
        self.assertRaises(refusal, ask, text)
        self.assertLess(time.process_time() - begun, 1)

    def test_desk(self):
        kinds = (["far " + "9" * 41], ["go " + "9" * 41], ["by " + "9" * 41], ["next", "ever", "spares", "pace"],
                 ["dip 1", "go 1"], ["need 0 999999999989", "pace", "undo", "far 5"])
        for hill in GREAT:
            head = hill_text(hill).split("\n") + ["begin 0 0 0"]
            for rows in kinds:
                text = "\n".join(head + (rows * 60)[:60 - len(head)])
                self.assertEqual(len(self.quick(answers, text)), 60 - len(head))

    def test_what_was_told_is_handed_in_again(self):
        for hill in GREAT:
            gone = self.quick(gone_by, hill, (0, 0, 0), FAR)
            for _ in range(3):
                state = self.quick(behind, hill, (0, 0, 0), gone)
                gone = self.quick(gone_by, hill, (0, 0, 0), FAR * state[0])


if __name__ == "__main__":
    unittest.main()
