import random
import unittest

from honeyturns.far import behind, gone_by, lost_by, lost_until
from honeyturns.hills import given_by, open_from, year_drops
from honeyturns.lines import line_of
from honeyturns.losses import next_loss
from honeyturns.rounds import lost_a_round, pace, round_from
from honeyturns.turns import is_state, turns

import plain

HILL = (((12, True), (0, False)), (5, 3), 8)
OTHER = (((12, True), (0, False)), (5, 4), 7)
FAR = 10 ** 40


def hills():
    return plain.HILLS + tuple(plain.small_hills()[::11]) + (HILL, OTHER)


def rows_of(hill, state):
    """The rows of a STATE and behind its turns, till they come round, and some more."""
    rows, again = plain.plain_way(hill, state)
    return rows + plain.plain_turns(hill, rows[-1][0], len(rows) - again + 5)


class Behind(unittest.TestCase):
    def test_beside_plain_turns(self):
        for hill in hills():
            for state in plain.some_states(hill)[::2]:
                for many, (expected, _) in enumerate(rows_of(hill, state)):
                    told = behind(hill, state, many)
                    self.assertEqual(plain.kinds(told), plain.kinds(expected), (hill, state, many))

    def test_no_turn(self):
        for hill in plain.HILLS:
            for day in (0, len(hill[0]) * FAR):
                for near, ant, pot in plain.states_of(hill, len(hill[0])):
                    state = (near + day, ant, pot)
                    self.assertEqual(plain.kinds(behind(hill, list(state), 0)), plain.kinds(state), (hill, state))

    def test_by_hand(self):
        told = [behind(HILL, (0, 0, 0), many) for many in range(5)]
        self.assertEqual(told, [(0, 0, 0), (2, 1, 7), (2, 0, 4), (4, 1, 8), (4, 0, 5)])
        # Eight turns come round in three years.
        self.assertEqual(behind(HILL, (4, 1, 8), 8 * FAR + 1), (4 + 6 * FAR, 0, 5))

    def test_on_the_days_own_evening(self):
        hill = (((2, True), (0, True), (9, True)), (2, 3), 20)
        for state in plain.states_of(hill, 6):
            row = [state] + [at for at, _ in plain.plain_turns(hill, state, 12)]
            self.assertEqual([behind(hill, state, many) for many in range(13)], row)

    def test_two_in_a_row_are_both_together(self):
        chance = random.Random(5)
        for hill in plain.HILLS + plain.GREAT:
            for state in plain.some_states(hill)[::9]:
                for _ in range(2):
                    one, other = (chance.randrange(10 ** chance.randrange(1, 41)) for _ in range(2))
                    middle = behind(hill, state, one)
                    self.assertIs(is_state(hill, middle), True)
                    self.assertEqual(behind(hill, middle, other), behind(hill, state, one + other), (hill, state))
                    lost = lost_by(hill, state, one) + lost_by(hill, middle, other)
                    self.assertEqual(lost, lost_by(hill, state, one + other), (hill, state))

    def test_one_more_is_a_turn_more(self):
        chance = random.Random(6)
        for hill in plain.HILLS + plain.GREAT:
            state = plain.some_states(hill)[-1]
            for power in (1, 14, 40):
                many = chance.randrange(10 ** power)
                told = [behind(hill, state, many + more) for more in range(4)]
                lost = [lost_by(hill, state, many + more) for more in range(4)]
                rows = turns(hill, told[0], 3)
                self.assertEqual([row[0] for row in rows], told[1:], (hill, many))
                self.assertEqual([row[1] for row in rows], [lost[past + 1] - lost[past] for past in range(3)])

    def test_by_a_years_days_more(self):
        for hill in plain.HILLS + plain.GREAT:
            for state in plain.some_states(hill)[::9]:
                for many, years in ((0, FAR), (1, 1), (7, 10 ** 12), (10 ** 12 + 3, FAR), (FAR + 1, FAR)):
                    day, ant, pot = behind(hill, state, many)
                    days = years * len(hill[0])
                    far = (state[0] + days, state[1], state[2])
                    self.assertEqual(behind(hill, far, many), (day + days, ant, pot), (hill, state, many))
                    self.assertEqual(lost_by(hill, far, many), lost_by(hill, state, many))

    def test_by_the_pace(self):
        for hill in plain.HILLS + plain.GREAT:
            state = plain.some_states(hill)[0]
            rounds, years = pace(hill)
            begin = round_from(hill, state)
            for many in (begin, begin + 1, begin + FAR):
                one, lost = behind(hill, state, many), lost_by(hill, state, many)
                for times in (1, 10 ** 12):
                    more = many + times * rounds * len(hill[1])
                    other = behind(hill, state, more)
                    line = line_of(hill, one) + times * years * year_drops(hill)
                    self.assertEqual((line_of(hill, other), other[1]), (line, one[1]), (hill, many, times))
                    self.assertEqual(lost_by(hill, state, more), lost + times * lost_a_round(hill))

    def test_greater_than_the_bounds(self):
        for hill in plain.HILLS + plain.GREAT:
            state = plain.some_states(hill)[0]
            told = behind(hill, state, FAR ** 2)
            self.assertIs(is_state(hill, told), True)
            self.assertEqual(behind(hill, told, FAR ** 2), behind(hill, state, 2 * FAR ** 2))


class LostBy(unittest.TestCase):
    def test_beside_plain_turns(self):
        for hill in hills():
            for state in plain.some_states(hill)[::2]:
                lost = 0
                for many, (_, more) in enumerate(rows_of(hill, state)):
                    lost += more
                    self.assertEqual(plain.kinds(lost_by(hill, state, many)), plain.kinds(lost), (hill, state, many))

    def test_by_hand(self):
        self.assertEqual([lost_by(HILL, (0, 0, 0), many) for many in range(8)], [0, 0, 0, 3, 3, 3, 4, 4])
        self.assertEqual(lost_by(HILL, (4, 1, 8), 8 * FAR), 4 * FAR)

    def test_nothing_ahead_of_the_next_loss(self):
        for hill in plain.HILLS + plain.GREAT:
            for state in plain.some_states(hill)[::6]:
                told = next_loss(hill, state)
                if told is None:
                    self.assertEqual(lost_by(hill, state, FAR), 0)
                else:
                    lost = [lost_by(hill, state, many) for many in (0, told[0] - 1, told[0])]
                    self.assertEqual(lost, [0, 0, told[2]])


class GoneBy(unittest.TestCase):
    def test_beside_plain_turns(self):
        for hill in hills():
            for state in plain.some_states(hill)[::2]:
                rows = rows_of(hill, state)
                lost = [0]
                for _, more in rows[1:]:
                    lost.append(lost[-1] + more)
                days = [at[0] for at, _ in rows[1:]]
                for day in range(state[0], min(days[-1], state[0] + 90)):
                    gone = sum(evening <= day for evening in days)
                    self.assertEqual(plain.kinds(gone_by(hill, state, day)), plain.kinds(gone), (hill, state, day))
                    self.assertEqual(plain.kinds(lost_until(hill, state, day)), plain.kinds(lost[gone]))

    def test_by_hand(self):
        # On day 2 ant 0 goes with 12, then ant 1 with 7; on day 4 ants 0, 1, 0.
        self.assertEqual([gone_by(HILL, (0, 0, 0), day) for day in range(7)], [0, 0, 2, 2, 5, 5, 8])
        self.assertEqual([lost_until(HILL, (0, 0, 0), day) for day in range(7)], [0, 0, 0, 0, 3, 3, 4])

    def test_turns_of_the_days_own_evening_count(self):
        for pot, gone in ((0, 0), (4, 0), (5, 1), (7, 1), (8, 2)):
            self.assertEqual(gone_by(HILL, (0, 0, pot), 0), gone)
            self.assertEqual(gone_by(HILL, (2 * FAR, 0, pot), 2 * FAR), gone)
        hill = (((3, True), (0, True)), (1, 1, 2), 50)
        self.assertEqual([gone_by(hill, (1, 2, pot), 1) for pot in range(1, 10)], [0, 1, 2, 3, 3, 4, 5, 6, 6])

    def test_a_shut_day_and_a_day_ahead_of_the_next_turn(self):
        hill = (((5, True), (5, False), (5, False), (1, True), (0, True)), (11, 1), 3)
        # Day 2 has all that is needed, but it's shut.
        self.assertEqual([gone_by(hill, (0, 0, 0), day) for day in range(6)], [0, 0, 0, 1, 1, 2])
        slow = (((1, True),), (10 ** 12,), 0)
        self.assertEqual([gone_by(slow, (7, 0, 0), 7 + day) for day in (0, 1, 10 ** 12 - 1, 10 ** 12)], [0, 0, 0, 1])

    def test_between_the_turns_that_behind_tells(self):
        chance = random.Random(8)
        for hill in plain.HILLS + plain.GREAT:
            for state in plain.some_states(hill)[::9]:
                for day in (chance.randrange(100), chance.randrange(10 ** 12), FAR, FAR + 1):
                    day += state[0]
                    gone = gone_by(hill, state, day)
                    self.assertLessEqual(behind(hill, state, gone)[0], day, (hill, state, day))
                    self.assertGreater(behind(hill, state, gone + 1)[0], day, (hill, state, day))
                    self.assertEqual(lost_until(hill, state, day), lost_by(hill, state, gone))

    def test_by_a_years_days_more(self):
        for hill in plain.HILLS + plain.GREAT:
            for day, ant, pot in plain.some_states(hill)[::9]:
                for many in (0, 1, 10 ** 12):
                    near = gone_by(hill, (day, ant, pot), day + many)
                    lost = lost_until(hill, (day, ant, pot), day + many)
                    far = FAR * len(hill[0]) + day
                    self.assertEqual(gone_by(hill, (far, ant, pot), far + many), near)
                    self.assertEqual(lost_until(hill, (far, ant, pot), far + many), lost)

    def test_by_the_pace(self):
        for hill in plain.HILLS + plain.GREAT:
            state = plain.some_states(hill)[0]
            rounds, years = pace(hill)
            late = behind(hill, state, round_from(hill, state) + len(hill[1]))[0]
            for day in (late, late + 5, late + 10 ** 30):
                days = years * len(hill[0])
                gone = gone_by(hill, state, day + days) - gone_by(hill, state, day)
                self.assertEqual(gone, rounds * len(hill[1]), (hill, day))
                lost = lost_until(hill, state, day + days) - lost_until(hill, state, day)
                self.assertEqual(lost, lost_a_round(hill), (hill, day))

    def test_goes_on_where_another_ended(self):
        for hill in plain.HILLS + plain.GREAT:
            state = plain.some_states(hill)[1]
            for day in (10, FAR):
                gone = gone_by(hill, state, state[0] + day)
                at = behind(hill, state, gone)
                for more in (0, 10 ** 13):
                    whole = gone_by(hill, state, state[0] + day + more)
                    self.assertEqual(gone + gone_by(hill, at, state[0] + day + more), whole)

    def test_of_great_drops_many_turns_in_a_day(self):
        hill = (((10 ** 12, True),), (1,), 10 ** 12)
        self.assertEqual(gone_by(hill, (0, 0, 10 ** 12), 0), 10 ** 12)
        told = gone_by(hill, (0, 0, 0), FAR)
        self.assertEqual(told, 10 ** 12 * FAR)
        # What was told is handed in again.
        self.assertEqual(behind(hill, (0, 0, 0), told), (FAR, 0, 0))
        self.assertEqual(behind(hill, (0, 0, 0), told + 1), (FAR + 1, 0, 10 ** 12 - 1))

    def test_nothing_is_gone_but_what_was_given(self):
        for hill in plain.HILLS + plain.GREAT:
            state = plain.some_states(hill)[0]
            day = open_from(hill, FAR)
            gone = gone_by(hill, state, day)
            line = line_of(hill, behind(hill, state, gone))
            # What isn't eaten or lost is no more than the next ant lacks.
            self.assertTrue(0 <= given_by(hill, day) - line < max(hill[1]))


class HandedIn(unittest.TestCase):
    def test_asking(self):
        plain.check_asking(self, behind, ("hill", "state", "many"), (HILL, (2, 0, 1), 50), OTHER)
        plain.check_asking(self, lost_by, ("hill", "state", "many"), (HILL, (2, 0, 1), 50), OTHER)
        plain.check_asking(self, gone_by, ("hill", "state", "day"), (HILL, (2, 0, 1), 50), OTHER)
        plain.check_asking(self, lost_until, ("hill", "state", "day"), (HILL, (2, 0, 1), 50), OTHER)


if __name__ == "__main__":
    unittest.main()
