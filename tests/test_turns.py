import unittest

from honeyturns.turns import is_state, turn, turns

import plain

HILL = (((3, True), (0, False), (2, True)), (4, 1), 2)
FAR = 10 ** 40


class IsState(unittest.TestCase):
    def right(self, *things):
        for thing in things:
            with self.subTest(thing=thing):
                self.assertIs(is_state(HILL, thing), True)

    def wrong(self, *things):
        for thing in things:
            with self.subTest(thing=thing):
                self.assertIs(is_state(HILL, thing), False)

    def test_all_about(self):
        for hill in plain.HILLS:
            states = plain.states_of(hill, 2 * len(hill[0]))
            for day in range(-1, 2 * len(hill[0])):
                for ant in range(-1, len(hill[1]) + 2):
                    for pot in range(-1, hill[2] + 3):
                        told = is_state(hill, (day, ant, pot))
                        self.assertIs(told, (day, ant, pot) in states, (hill, day, ant, pot))

    def test_states(self):
        self.right((0, 0, 0), (0, 1, 2), (2, 1, 0), (3, 0, 1), (5, 0, 2))

    def test_far(self):
        years = FAR // 3 + 1
        self.right((3 * years, 0, 0), (3 * years + 2, 1, 2), (3 * FAR ** 2, 0, 0))
        self.wrong((3 * years + 1, 0, 0), (3 * FAR ** 2 + 1, 1, 2))

    def test_bounds_are_not_looked_at(self):
        great = (((FAR, True),), (FAR,) * 9, FAR)
        self.assertIs(is_state(great, (FAR ** 2, 8, FAR)), True)
        self.assertIs(is_state(great, (FAR ** 2, 8, FAR + 1)), False)

    def test_a_shut_day(self):
        self.wrong((1, 0, 0), (4, 0, 0), (4, 1, 2))

    def test_an_ant_or_a_pot_beyond(self):
        self.wrong((0, 2, 0), (0, 3, 0), (0, FAR, 0), (0, 0, 3), (0, 0, FAR))

    def test_below_nought(self):
        self.wrong((-1, 0, 0), (-3, 0, 0), (0, -1, 0), (0, 0, -1), (-FAR, -1, -1))

    def test_truths(self):
        for truth in (True, False):
            self.wrong((truth, 0, 0), (0, truth, 0), (0, 0, truth), (truth, truth, truth))
        self.assertIs(is_state(plain.ONE_DAY, (True, 0, 0)), False)

    def test_lists(self):
        self.wrong([0, 0, 0], [[0, 0, 0]], ([0], 0, 0), (0, [0], 0), (0, 0, [0]))

    def test_parts_more_or_fewer(self):
        self.wrong((), (0,), (0, 0), (0, 0, 0, 0), ((0, 0, 0),), ((0, 0, 0), 0))

    def test_things_of_other_kinds(self):
        self.wrong(None, True, False, 0, 3, "", "000", "abc", [], ((), (), ()))
        for other in (None, "", "0", (), (0,), [], [0]):
            self.wrong((other, 0, 0), (0, other, 0), (0, 0, other))

    def test_hill_of_lists(self):
        for hill in plain.with_lists(HILL):
            with self.subTest(hill=hill):
                self.assertIs(is_state(hill, (2, 1, 2)), True)
                self.assertIs(is_state(hill, (1, 1, 2)), False)
                self.assertIs(is_state(hill, (2, 2, 2)), False)
                self.assertIs(is_state(hill, (2, 1, 3)), False)
                self.assertIs(is_state(hill, [2, 1, 2]), False)

    def test_by_name(self):
        self.assertIs(is_state(thing=(0, 0, 0), hill=HILL), True)
        self.assertIs(is_state(hill=HILL, thing=(1, 0, 0)), False)


class Turn(unittest.TestCase):
    def told(self, hill, state, expected):
        self.assertEqual(plain.kinds(turn(hill, state)), plain.kinds(expected))

    def test_beside_a_plain_sitting(self):
        for hill in plain.HILLS + tuple(plain.small_hills()):
            for state in plain.states_of(hill, 2 * len(hill[0])):
                with self.subTest(hill=hill, state=state):
                    self.told(hill, state, plain.plain_turn(hill, state))

    def test_an_ordinary_turn(self):
        # Ant 0 needs 4: with 1 in the pot, day 2 brings 3 in all, day 3 then 6; 2 are left.
        self.told(HILL, (0, 0, 1), ((3, 1, 2), 0))

    def test_something_is_lost(self):
        # Day 1 brings 5 to a need of 1: of the 4 that are left the pot keeps 2.
        hill = (((0, True), (5, True)), (1,), 2)
        self.told(hill, (0, 0, 0), ((1, 0, 2), 2))

    def test_on_its_own_evening(self):
        self.told(HILL, (0, 1, 1), ((0, 0, 0), 0))
        self.told(HILL, (2, 1, 2), ((2, 0, 1), 0))

    def test_a_need_just_met(self):
        hill = (((3, True), (2, True)), (5, 6), 6)
        self.told(hill, (0, 0, 3), ((1, 1, 0), 0))
        self.told(hill, (0, 0, 2), ((2, 1, 2), 0))
        self.told(hill, (0, 0, 5), ((0, 1, 0), 0))
        self.told(hill, (0, 1, 5), ((1, 0, 1), 0))
        self.told(hill, (0, 1, 6), ((0, 0, 0), 0))

    def test_a_need_met_on_a_shut_evening(self):
        hill = (((1, True), (4, False), (2, False), (1, True)), (4,), 1)
        self.told(hill, (0, 0, 0), ((3, 0, 1), 2))
        self.told(hill, (3, 0, 1), ((7, 0, 1), 4))

    def test_a_pot_of_nought(self):
        hill = (((3, True),), (2, 3), 0)
        self.told(hill, (0, 0, 0), ((1, 1, 0), 1))
        self.told(hill, (1, 1, 0), ((2, 0, 0), 0))

    def test_behind_the_last_ant(self):
        self.assertEqual([turn(plain.MONTHS, (0, ant, 0))[0][1] for ant in range(6)], [1, 2, 3, 4, 5, 0])
        self.assertEqual(turn(plain.ONE_DAY, (0, 0, 0))[0][1], 0)

    def test_many_years(self):
        hill = (((0, False), (1, False), (0, True)), (10 ** 12, 1), 7)
        self.told(hill, (2, 0, 0), ((2 + 3 * 10 ** 12, 1, 0), 0))
        self.told(hill, (2, 0, 7), ((2 + 3 * (10 ** 12 - 7), 1, 0), 0))
        three = (((3, True), (0, True)), (10 ** 12,), 1)
        # 10 ** 12 is 1 more than a number that 3 divides: 2 drops more come than are needed.
        years = 10 ** 12 // 3 + 1
        self.told(three, (0, 0, 0), ((2 * years, 0, 1), 1))

    def test_great_drops(self):
        hill = (((10 ** 12, True),), (1, 10 ** 12), 10 ** 12 - 2)
        self.told(hill, (0, 0, 0), ((1, 1, 10 ** 12 - 2), 1))
        self.told(hill, (1, 1, 10 ** 12 - 2), ((2, 0, 10 ** 12 - 2), 0))
        self.told(hill, (2, 0, 10 ** 12 - 2), ((2, 1, 10 ** 12 - 3), 0))

    def test_far_days(self):
        for hill in plain.HILLS:
            days = len(hill[0])
            for years in (10 ** 12, FAR // days - 1, FAR):
                for state in plain.states_of(hill, days):
                    day, ant, pot = state
                    near, lost = plain.plain_turn(hill, state)
                    far = (near[0] + years * days, near[1], near[2])
                    with self.subTest(hill=hill, state=state, years=years):
                        self.told(hill, (day + years * days, ant, pot), (far, lost))


class Turns(unittest.TestCase):
    def told(self, hill, state, many, expected):
        self.assertEqual(plain.kinds(turns(hill, state, many)), plain.kinds(expected))

    def test_beside_a_plain_sitting(self):
        for hill in plain.HILLS:
            for state in plain.states_of(hill, len(hill[0])):
                for many in (1, 2, 3, 17):
                    with self.subTest(hill=hill, state=state, many=many):
                        self.told(hill, state, many, plain.plain_turns(hill, state, many))

    def test_four_hundred(self):
        for hill in plain.HILLS:
            state = plain.states_of(hill, len(hill[0]))[-1]
            with self.subTest(hill=hill):
                self.told(hill, state, 400, plain.plain_turns(hill, state, 400))

    def test_small_hills(self):
        for hill in plain.small_hills():
            state = plain.states_of(hill, len(hill[0]))[0]
            with self.subTest(hill=hill):
                self.told(hill, state, 9, plain.plain_turns(hill, state, 9))

    def test_two_on_one_evening(self):
        hill = (((6, True),), (4, 1, 1), 3)
        row = [((1, 1, 2), 0), ((1, 2, 1), 0), ((1, 0, 0), 0), ((2, 1, 2), 0)]
        self.told(hill, (0, 0, 0), 4, row)
        # The pot of the beginning alone is enough for two.
        self.told(hill, (0, 1, 3), 3, [((0, 2, 2), 0), ((0, 0, 1), 0), ((1, 1, 3), 0)])

    def test_no_turn(self):
        self.told(HILL, (0, 0, 0), 0, [])

    def test_goes_on_where_another_ended(self):
        for hill in plain.HILLS:
            state = plain.states_of(hill, len(hill[0]))[0]
            whole = turns(hill, state, 30)
            for many in (1, 2, 7, 29, 30):
                with self.subTest(hill=hill, many=many):
                    row = turns(hill, state, many)
                    self.assertEqual(row + turns(hill, row[-1][0], 30 - many), whole)

    def test_far(self):
        hill = (((0, False), (1, True)), (10 ** 12,), 0)
        row = turns(hill, (2 * FAR + 1, 0, 0), 400)
        self.assertEqual(row[-1], ((2 * FAR + 1 + 800 * 10 ** 12, 0, 0), 0))

    def test_every_state_told_is_one(self):
        for hill in plain.HILLS:
            state = plain.states_of(hill, len(hill[0]))[0]
            for behind, _ in turns(hill, state, 60):
                self.assertIs(is_state(hill, behind), True, (hill, behind))

    def test_told_list_is_the_askers_own(self):
        one = turns(HILL, (0, 0, 0), 5)
        other = turns(HILL, (0, 0, 0), 5)
        self.assertIsNot(one, other)
        one.clear()
        self.assertEqual(len(other), 5)
        self.told(HILL, (0, 0, 0), 5, other)
        nothing = turns(HILL, (0, 0, 0), 0)
        nothing.append(1)
        self.told(HILL, (0, 0, 0), 0, [])


class HandedIn(unittest.TestCase):
    def test_lists_for_tuples(self):
        for hill in plain.with_lists(HILL):
            for state in ((0, 1, 2), [0, 1, 2]):
                with self.subTest(hill=hill, state=state):
                    self.assertEqual(plain.kinds(turn(hill, state)), "((0, 0, 1), 0)")
                    self.assertEqual(plain.kinds(turns(hill, state, 2)), "[((0, 0, 1), 0), ((3, 1, 2), 0)]")

    def test_by_name(self):
        self.assertEqual(turn(state=(0, 1, 2), hill=HILL), ((0, 0, 1), 0))
        self.assertEqual(turns(many=1, state=(0, 1, 2), hill=HILL), [((0, 0, 1), 0)])

    def test_stays_as_it_was(self):
        hill, state = plain.all_lists(HILL), [0, 1, 2]
        for ask, handed in ((is_state, (hill, state)), (turn, (hill, state)), (turns, (hill, state, 40))):
            with self.subTest(ask=ask):
                told = ask(*handed)
                self.assertEqual(plain.kinds(hill), plain.kinds(plain.all_lists(HILL)))
                self.assertEqual(plain.kinds(state), "[0, 1, 2]")
                self.assertEqual(plain.kinds(ask(*handed)), plain.kinds(told))

    def test_is_not_kept(self):
        hill, state = plain.all_lists(HILL), [0, 1, 2]
        told = turns(hill, state, 2)
        before = plain.kinds(told)
        state[2] = 0
        hill[1][0] = 1
        self.assertEqual(plain.kinds(told), before)
        self.assertEqual(plain.kinds(turns(hill, state, 2)), "[((2, 0, 1), 0), ((2, 1, 0), 0)]")


if __name__ == "__main__":
    unittest.main()
