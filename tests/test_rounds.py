import math
import unittest

from honeyturns.far import behind, lost_by
from honeyturns.hills import ring_needs, year_drops
from honeyturns.lines import line_of
from honeyturns.losses import losses
from honeyturns.rounds import lost_a_round, pace, round_from
from honeyturns.sparing import common, spares

import plain

HILL = (((12, True), (0, False)), (5, 3), 8)
OTHER = (((12, True), (0, False)), (5, 4), 7)
SPARING = (((12, True),), (10, 2), 9)
FAR = 10 ** 40


def hills():
    return plain.HILLS + tuple(plain.small_hills()[::5])


def plain_pace(hill, rows, again):
    turns = len(rows) - 1 - again
    drops = plain.plain_line(hill, rows[-1][0]) - plain.plain_line(hill, rows[again][0])
    return turns // len(hill[1]), drops // plain.plain_year(hill)


def leads_so(hill, state, many):
    """Tell whether, behind so many turns, pace's rounds lead the line by the drops of pace's years."""
    rounds, years = pace(hill)
    one = behind(hill, state, many)
    other = behind(hill, state, many + rounds * len(hill[1]))
    return line_of(hill, other) - line_of(hill, one) == years * year_drops(hill)


class Pace(unittest.TestCase):
    def test_beside_plain_turns_till_they_come_round(self):
        for hill in hills():
            for state in plain.some_states(hill):
                expected = plain_pace(hill, *plain.plain_way(hill, state))
                self.assertEqual(plain.kinds(pace(hill)), plain.kinds(expected), (hill, state))

    def test_by_hand(self):
        # Eight drops a round, 12 a year: nothing is lost of 24.
        self.assertEqual(pace((((12, True),), (5, 3), 10)), (3, 2))
        # Each turn takes an evening's drops.
        self.assertEqual(pace((((12, True),), (5, 3), 0)), (1, 2))
        self.assertEqual(pace((((12, True), (0, True), (0, False)), (5,), 0)), (1, 1))
        self.assertEqual(pace((((2, True), (2, True), (2, False)), (1,), 0)), (2, 1))
        # 28, 31, 36, 39 and 40, 45, 48, 53, 56 and 61, where it's led to 64, so 28 and three years.
        self.assertEqual(pace(HILL), (4, 3))

    def test_lowest_terms(self):
        for hill in hills() + plain.GREAT:
            rounds, years = pace(hill)
            self.assertEqual(math.gcd(rounds, years), 1, hill)
            self.assertTrue(rounds >= 1 and years >= 1)

    def test_of_hills_that_spare(self):
        several = 0
        for hill in hills() + plain.GREAT_SPARING:
            if spares(hill):
                several += common(hill) > 1
                self.assertEqual(pace(hill), (year_drops(hill) // common(hill), ring_needs(hill) // common(hill)))
            else:
                rounds, years = pace(hill)
                self.assertLess(rounds * ring_needs(hill), years * year_drops(hill))
        self.assertGreater(several, 10)

    def test_a_pot_of_nought(self):
        for hill in hills():
            bare = (hill[0], hill[1], 0)
            for state in plain.some_states(bare):
                self.assertEqual(pace(bare), plain_pace(bare, *plain.plain_way(bare, state)))

    def test_great(self):
        self.assertEqual(pace(plain.NO_STRETCH), (4 * 10 ** 12 + 6, 10 ** 12 + 3))
        self.assertEqual((pace(plain.HALVES), pace(plain.GREAT_CLASSES)), ((4, 1), (4, 1)))
        # One number alone is lost at: of each round of losses all needs and a drop make whole years.
        for hill in (plain.SELDOM, plain.SELDOM_OF_SIX):
            rounds, years = pace(hill)
            self.assertGreater(rounds, 10 ** 12)
            self.assertEqual(rounds * ring_needs(hill) + lost_a_round(hill), years * year_drops(hill))
        year, need = year_drops(plain.SELDOM), plain.SELDOM[1][0]
        # From behind the loss, at 2, to 1 again.
        self.assertEqual(pace(plain.SELDOM)[0], -pow(need, -1, year) % year)


class RoundFrom(unittest.TestCase):
    def test_beside_plain_turns_till_they_come_round(self):
        for hill in hills():
            for state in plain.some_states(hill):
                again = plain.plain_way(hill, state)[1]
                self.assertEqual(plain.kinds(round_from(hill, state)), plain.kinds(again), (hill, state))

    def test_all_states(self):
        for hill in plain.HILLS[:4] + (HILL, OTHER, SPARING):
            for state in plain.states_of(hill, len(hill[0])):
                self.assertEqual(round_from(hill, state), plain.plain_way(hill, state)[1], (hill, state))

    def test_by_hand(self):
        # With ant 0 next 31, 40, 48 and 56 come round: 12, 8, 7 and 4 are like these.
        self.assertEqual([round_from(HILL, (0, 0, pot)) for pot in range(9)], [0, 1, 1, 1, 0, 0, 2, 2, 0])
        # From 24 and 23 something is lost at 26 and 25, and then at 37.
        self.assertEqual([round_from(SPARING, (1, 1, pot)) for pot in range(4)], [2, 2, 0, 0])
        # Lines that end in 0 and 7 come round: from 9 and 8 it's led to 17.
        self.assertEqual([round_from((((10, True),), (3,), 3), (0, 0, pot)) for pot in range(4)], [0, 1, 1, 0])

    def test_some_are_nought_and_some_are_far(self):
        told = [round_from(hill, state) for hill in hills() for state in plain.some_states(hill)]
        self.assertTrue(told.count(0) > 50 and max(told) > 5)

    def test_hills_that_spare(self):
        for hill in hills() + plain.GREAT_SPARING:
            if spares(hill):
                for state in plain.some_states(hill):
                    row = losses(hill, state, 100)
                    self.assertEqual(round_from(hill, state), row[-1][0] if row else 0, (hill, state))

    def test_less_one_is_not(self):
        far = 0
        for hill in hills()[::5] + plain.GREAT:
            for state in plain.some_states(hill)[::7]:
                many = round_from(hill, state)
                far += many > 10 ** 10
                for more in (0, 1, 2, 10 ** 20):
                    self.assertTrue(leads_so(hill, state, many + more), (hill, state, more))
                for less in (1, 2, many):
                    if 1 <= less <= many:
                        self.assertFalse(leads_so(hill, state, many - less), (hill, state, less))
        self.assertGreater(far, 2)

    def test_more_turns_than_drops_ahead_of_it(self):
        # The great pot alone is enough for many turns: lines are far below 0.
        for most in range(40, 60):
            for needs in ((1, 2), (2,), (2, 4, 2)):
                hill = (((2, True), (60, True)), needs, most)
                for pot in (most, most - 1, most // 2):
                    state = (0, most % len(needs), pot)
                    self.assertEqual(round_from(hill, state), plain.plain_way(hill, state)[1], (hill, state))

    def test_a_pot_of_nought(self):
        for hill in hills():
            bare = (hill[0], hill[1], 0)
            for state in plain.some_states(bare):
                self.assertEqual(round_from(bare, state), plain.plain_way(bare, state)[1], (bare, state))

    def test_a_year_on(self):
        for hill in hills()[::5] + plain.GREAT:
            state = plain.some_states(hill)[0]
            for years in (1, 10 ** 12, FAR):
                far = (state[0] + years * len(hill[0]),) + state[1:]
                self.assertEqual(round_from(hill, far), round_from(hill, state))


class LostARound(unittest.TestCase):
    def test_beside_plain_turns_till_they_come_round(self):
        for hill in hills():
            for state in plain.some_states(hill):
                rows, again = plain.plain_way(hill, state)
                lost = sum(row[1] for row in rows[again + 1:])
                self.assertEqual(plain.kinds(lost_a_round(hill)), plain.kinds(lost), (hill, state))

    def test_nought_just_where_the_hill_spares(self):
        for hill in hills() + plain.GREAT:
            self.assertEqual(lost_a_round(hill) == 0, spares(hill), hill)

    def test_by_hand(self):
        self.assertEqual(lost_a_round(HILL), 4)
        self.assertEqual(lost_a_round((((12, True),), (5, 3), 0)), 16)
        self.assertEqual(lost_a_round((((12, True),), (5, 3), 10)), 0)

    def test_great(self):
        for hill in plain.GREAT:
            state = plain.some_states(hill)[1]
            turns = pace(hill)[0] * len(hill[1])
            for many in (round_from(hill, state), 10 ** 20, FAR):
                lost = lost_by(hill, state, many + turns) - lost_by(hill, state, many)
                self.assertEqual(lost, lost_a_round(hill), hill)


class HandedIn(unittest.TestCase):
    def test_asking(self):
        plain.check_asking(self, pace, ("hill",), (HILL,), OTHER)
        plain.check_asking(self, round_from, ("hill", "state"), (HILL, (2, 0, 8)), OTHER)
        plain.check_asking(self, lost_a_round, ("hill",), (HILL,), OTHER)


if __name__ == "__main__":
    unittest.main()
