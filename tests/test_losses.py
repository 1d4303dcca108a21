import unittest

from honeyturns.far import behind, lost_by
from honeyturns.hills import year_drops
from honeyturns.lines import line_of
from honeyturns.losses import losses, next_loss
from honeyturns.sparing import lost_in_all, spares
from honeyturns.turns import is_state, turns

import plain

HILL = (((12, True), (0, False)), (5, 3), 8)
OTHER = (((12, True), (0, False)), (5, 4), 7)
SPARING = (((12, True),), (5, 3), 10)
FAR = 10 ** 40


def plain_losses(rows):
    """The losses in the rows, the beginning's STATE ahead of them."""
    return [(turn, state, lost) for turn, (state, lost) in enumerate(rows) if lost]


def rows_twice_round(hill, state):
    """The rows of a STATE and behind its turns, till they have come round twice."""
    rows, again = plain.plain_way(hill, state)
    return rows + plain.plain_turns(hill, rows[-1][0], len(rows) - 1 - again)


class NextLoss(unittest.TestCase):
    def told(self, hill, state, expected):
        self.assertEqual(plain.kinds(next_loss(hill, state)), plain.kinds(expected), (hill, state))

    def test_beside_plain_turns(self):
        for hill in plain.HILLS + tuple(plain.small_hills()[::5]):
            for state in plain.some_states(hill):
                found = plain_losses(plain.plain_way(hill, state)[0])
                self.told(hill, state, found[0] if found else None)

    def test_by_hand(self):
        # At 1, 2, 3 and whole twelves it's lost. From 12 lines go to 17, 20 and 25: of 36 the pot keeps 8, not 11.
        self.told(HILL, (0, 0, 0), (3, (4, 1, 8), 3))
        # From 4 ant 0 goes to 9, ant 1 to 12, ant 0 to 17, ant 1 to 20, ant 0 to 25.
        self.told(HILL, (0, 0, 8), (5, (4, 1, 8), 3))

    def test_none(self):
        self.told(SPARING, (0, 0, 9), None)
        self.told((((12, True),), (5, 3), 11), (0, 0, 0), None)
        self.told((((12, True),), (12,), 0), (FAR, 0, 0), None)

    def test_the_very_next_turn(self):
        hill = (((10, True),), (1,), 0)
        self.told(hill, (0, 0, 0), (1, (1, 0, 0), 9))
        self.told(hill, (FAR, 0, 0), (1, (FAR + 1, 0, 0), 9))

    def test_on_a_day_behind_the_one_the_line_tells(self):
        # The pot is enough for two turns on the day itself: no loss, though lines are below 1.
        hill = (((2, True), (9, True)), (2, 3), 6)
        for state in plain.states_of(hill, 4):
            found = plain_losses(plain.plain_way(hill, state)[0])
            self.told(hill, state, found[0] if found else None)

    def test_on_a_day_of_a_smaller_number_than_the_ants(self):
        hill = (((10, True),), (1,) * 6, 2)
        for ant in range(6):
            self.told(hill, (0, ant, 0), (1, (1, (ant + 1) % 6, 2), 7))
            self.assertEqual(losses(hill, (0, ant, 0), 1), [(1, (1, (ant + 1) % 6, 2), 7)])

    def test_from_behind_a_loss_on(self):
        for hill in plain.some_hills():
            state = plain.some_states(hill)[0]
            row = losses(hill, state, 12)
            for one, other in zip(row, row[1:]):
                self.told(hill, one[1], (other[0] - one[0], other[1], other[2]))

    def test_a_year_on(self):
        for hill in plain.some_hills() + plain.GREAT:
            for state in plain.some_states(hill)[:3]:
                near = next_loss(hill, state)
                for years in (1, 10 ** 12, FAR):
                    days = years * len(hill[0])
                    far = near and (near[0], (near[1][0] + days,) + near[1][1:], near[2])
                    self.told(hill, (state[0] + days,) + state[1:], far)

    def test_far_off(self):
        around, need = year_drops(plain.SELDOM), plain.SELDOM[1][0]
        for pot in (0, 1, 10, 11, 12, 10 ** 6, 10 ** 12 - 3):
            # It's lost at 1 alone: so many needs lead from the line there.
            turn = (1 - (10 ** 12 - pot)) * pow(need, -1, around) % around
            told = next_loss(plain.SELDOM, (0, 0, pot))
            self.assertEqual((told[0], told[2]), (turn, 1))
            self.assertEqual((line_of(plain.SELDOM, told[1]) - 2) % around, 0)
        # More than 10 ** 13 rounds.
        self.assertEqual(next_loss(plain.SELDOM, (0, 0, 10))[0], around - 1)

    def test_far_off_ahead_and_at_it(self):
        for hill in plain.GREAT:
            for state in plain.some_states(hill)[::4]:
                told = next_loss(hill, state)
                turn = told and told[0]
                plain.check_first_loss(self, hill, state[1], line_of(hill, state), turn)
                if told is None:
                    self.assertEqual((lost_by(hill, state, FAR), lost_in_all(hill, state)), (0, 0))
                else:
                    self.assertEqual((lost_by(hill, state, turn - 1), lost_by(hill, state, turn)), (0, told[2]))
                    self.assertEqual(behind(hill, state, turn), told[1])
                    self.assertIs(is_state(hill, told[1]), True)
                    ahead = behind(hill, state, turn - 1)
                    self.assertEqual(turns(hill, ahead, 1), [(told[1], told[2])])


class Losses(unittest.TestCase):
    def test_beside_plain_turns(self):
        for hill in plain.HILLS + tuple(plain.small_hills()[::7]):
            for state in plain.some_states(hill):
                found = plain_losses(rows_twice_round(hill, state))
                told = losses(hill, state, len(found))
                self.assertEqual(plain.kinds(told), plain.kinds(found), (hill, state))

    def test_so_many(self):
        for hill in plain.HILLS:
            for state in plain.some_states(hill)[:4]:
                whole = losses(hill, state, 100)
                for many in (0, 1, 2, 3, 50, 99):
                    self.assertEqual(losses(hill, state, many), whole[:many], (hill, state, many))
                if not spares(hill):
                    self.assertEqual(len(whole), 100)

    def test_none_of_none(self):
        for hill in plain.some_hills() + plain.GREAT:
            self.assertEqual(plain.kinds(losses(hill, plain.some_states(hill)[0], 0)), "[]")
        self.assertEqual(plain.kinds(losses((((12, True),), (5, 3), 11), (0, 0, 0), 100)), "[]")

    def test_fewer_where_no_more_come(self):
        several = 0
        for hill in plain.HILLS + tuple(plain.small_hills()) + plain.GREAT_SPARING:
            if spares(hill):
                for state in plain.some_states(hill):
                    told = losses(hill, state, 100)
                    several += len(told) > 1
                    self.assertEqual(sum(loss[2] for loss in told), lost_in_all(hill, state), (hill, state))
                    if told:
                        self.assertIsNone(next_loss(hill, told[-1][1]))
                        self.assertEqual(losses(hill, state, len(told)), told)
        self.assertGreater(several, 5)

    def test_by_hand(self):
        # Behind the loss at 25 from 28 to 31, 36 and 39, from 40 to 45, 48, 53, 56 and 61.
        expected = [(3, (4, 1, 8), 3), (6, (6, 0, 8), 1), (11, (10, 1, 8), 3), (14, (12, 0, 8), 1)]
        self.assertEqual(plain.kinds(losses(HILL, (0, 0, 0), 4)), plain.kinds(expected))
        # Two losses and no more: from 23 to 25, led on to 27, then to 37, led on to 39.
        hill = (((12, True),), (2, 10), 9)
        self.assertEqual(losses(hill, (1, 0, 1), 9), [(1, (2, 1, 9), 2), (2, (3, 0, 9), 2)])

    def test_turns_are_counted_from_the_state(self):
        for hill in plain.HILLS + plain.GREAT:
            for state in plain.some_states(hill)[:4]:
                gone, at = 0, state
                for turn, next_state, lost in losses(hill, state, 30):
                    step = next_loss(hill, at)
                    self.assertEqual(step, (turn - gone, next_state, lost), (hill, state))
                    gone, at = turn, next_state

    def test_great_one_behind_the_other(self):
        for hill in plain.GREAT:
            state = plain.some_states(hill)[1]
            before = (0, state, 0)
            for loss in losses(hill, state, 9):
                gone, at = before[0], before[1]
                plain.check_first_loss(self, hill, at[1], line_of(hill, at), loss[0] - gone)
                self.assertEqual(behind(hill, state, loss[0]), loss[1])
                self.assertEqual(lost_by(hill, state, loss[0]) - lost_by(hill, state, gone), loss[2])
                before = loss

    def test_great_come_round(self):
        for hill in plain.GREAT_SPILLING:
            state = plain.some_states(hill)[0]
            told = losses(hill, state, 300)[1:]
            like = [(at[1], line_of(hill, at) % year_drops(hill), lost) for _, at, lost in told]
            # Of ants and stretches there are 72 at most.
            self.assertLessEqual(len(set(like)), 72)
            again = like.index(like[99], 100) - 99
            self.assertEqual(like[99:200], like[99 + again:200 + again])


class HandedIn(unittest.TestCase):
    def test_asking(self):
        plain.check_asking(self, next_loss, ("hill", "state"), (HILL, (2, 0, 1)), OTHER)
        plain.check_asking(self, losses, ("hill", "state", "many"), (HILL, (2, 0, 1), 5), OTHER)

    def test_a_bare_list_is_the_askers_own(self):
        losses(HILL, (0, 0, 0), 0).append(1)
        self.assertEqual(losses(HILL, (0, 0, 0), 0), [])

    def test_told_states_are_handed_in_again(self):
        for hill in plain.HILLS + plain.GREAT:
            state = plain.some_states(hill)[0]
            for turn, at, _ in losses(hill, state, 5):
                self.assertIs(is_state(hill, at), True)
                self.assertEqual(turns(hill, at, 2), turns(hill, behind(hill, state, turn), 2))


if __name__ == "__main__":
    unittest.main()
