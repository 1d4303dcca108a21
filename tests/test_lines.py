import unittest

from honeyturns.hills import day_of, year_drops
from honeyturns.lines import led, line_of, lost_at, stretches
from honeyturns.turns import turn, turns

import plain

HILL = (((3, True), (0, False), (6, True)), (4, 1), 2)
OTHER = (((1, True), (0, False), (9, True)), (3, 2), 1)
FAR = 10 ** 40
GREAT = (((10 ** 12, True), (10 ** 12 - 1, False), (7, True), (10 ** 12, False)), (10 ** 12, 3), 10 ** 9)


class LineOf(unittest.TestCase):
    def test_what_was_given_less_the_pot(self):
        for hill in plain.some_hills():
            for state in plain.states_of(hill, 2 * len(hill[0])):
                with self.subTest(hill=hill, state=state):
                    line = plain.plain_given_by(hill, state[0]) - state[2]
                    self.assertEqual(plain.kinds(line_of(hill, state)), plain.kinds(line))

    def test_ordinary_nought_and_below(self):
        self.assertEqual([line_of(HILL, state) for state in ((0, 0, 0), (2, 1, 2), (3, 0, 1))], [3, 7, 11])
        self.assertEqual(line_of((((2, True),), (1,), 9), (0, 0, 2)), 0)
        self.assertEqual(line_of((((2, True),), (1,), 9), (0, 0, 9)), -7)

    def test_far(self):
        for hill in plain.HILLS:
            day, ant, pot = plain.states_of(hill, len(hill[0]))[-1]
            for years in (10 ** 12, FAR):
                far = (day + years * len(hill[0]), ant, pot)
                line = plain.plain_line(hill, (day, ant, pot)) + years * plain.plain_year(hill)
                self.assertEqual(line_of(hill, far), line)


class LostAt(unittest.TestCase):
    def test_beside_evening_by_evening(self):
        for hill in plain.HILLS + tuple(plain.small_hills()):
            around = plain.plain_year(hill)
            for number in range(-2 * around - 1, 3 * around + 1):
                lost = lost_at(hill, number)
                self.assertEqual(plain.kinds(lost), plain.kinds(plain.plain_lost_at(hill, number)), (hill, number))

    def test_by_hand(self):
        # The totals of open evenings are 3, 9, 12, 18: from 4 to 6, with a pot of 2, something is over.
        self.assertEqual([lost_at(HILL, number) for number in range(2, 11)], [0, 0, 3, 2, 1, 0, 0, 0, 0])

    def test_nought_and_below(self):
        hill = (((5, True),), (1,), 1)
        self.assertEqual([lost_at(hill, number) for number in range(-6, 7)], [0, 0, 3, 2, 1, 0, 0, 3, 2, 1, 0, 0, 3])
        late = (((5, False), (0, True), (1, False)), (1,), 0)
        # Between the totals 5 - 6 and 5 nought itself is left out, too.
        self.assertEqual([lost_at(late, number) for number in (-2, -1, 0, 1, 4, 5, 6)], [1, 0, 5, 4, 1, 0, 5])

    def test_far(self):
        for hill in plain.HILLS:
            around = plain.plain_year(hill)
            for number in range(around):
                for years in (10 ** 12, FAR, -10 ** 12, -FAR):
                    lost = lost_at(hill, number + years * around)
                    self.assertEqual(lost, plain.plain_lost_at(hill, number), (hill, number, years))

    def test_nought_just_out_of_the_stretches(self):
        for hill in plain.HILLS + tuple(plain.small_hills()):
            around = plain.plain_year(hill)
            inside = {number % around for low, high in stretches(hill) for number in range(low, high + 1)}
            for number in range(around):
                self.assertEqual(lost_at(hill, number) > 0, number in inside, (hill, number))


class Led(unittest.TestCase):
    def test_a_turn_leads_the_line_so(self):
        for hill in plain.HILLS + tuple(plain.small_hills()):
            for state in plain.states_of(hill, len(hill[0])):
                line, need = plain.plain_line(hill, state), hill[1][state[1]]
                behind, lost = plain.plain_turn(hill, state)
                self.assertEqual(turn(hill, state), (behind, lost))
                self.assertEqual(led(hill, state[1], line), plain.plain_line(hill, behind), (hill, state))
                self.assertEqual(lost_at(hill, line + need), lost, (hill, state))

    def test_rows_of_turns(self):
        for hill in plain.HILLS:
            for state in plain.some_states(hill):
                line, ant = line_of(hill, state), state[1]
                for behind, lost in turns(hill, state, 100):
                    self.assertEqual(lost_at(hill, line + hill[1][ant]), lost, (hill, state))
                    line = led(hill, ant, line)
                    self.assertEqual((line, behind[1]), (line_of(hill, behind), (ant + 1) % len(hill[1])))
                    ant = behind[1]

    def test_the_evening_is_told_by_the_lines(self):
        for hill in plain.some_hills():
            for state in plain.states_of(hill, len(hill[0])):
                line = led(hill, state[1], line_of(hill, state))
                evening = max(state[0], day_of(hill, line)) if line >= 1 else state[0]
                self.assertEqual(turn(hill, state)[0][0], evening, (hill, state))

    def test_any_line(self):
        for hill in plain.HILLS + tuple(plain.small_hills()):
            around = plain.plain_year(hill)
            for ant in range(len(hill[1])):
                for line in range(-2 * around, 2 * around):
                    number = line + hill[1][ant]
                    expected = number + plain.plain_lost_at(hill, number)
                    self.assertEqual(plain.kinds(led(hill, ant, line)), plain.kinds(expected), (hill, ant, line))

    def test_whole_years_more_or_less(self):
        for hill in plain.HILLS + (GREAT,):
            around = year_drops(hill)
            for ant in range(len(hill[1])):
                for line in (0, 1, 5, 10 ** 12, -1, -10 ** 12):
                    near = led(hill, ant, line)
                    for years in (1, -1, 10 ** 12, FAR, -FAR):
                        far = led(hill, ant, line + years * around)
                        self.assertEqual(far, near + years * around, (hill, ant, line, years))

    def test_by_hand(self):
        # From 0 ant 0 comes to 4, where 3 are lost, ant 1 to 1, where none are.
        self.assertEqual((led(HILL, 0, 0), led(HILL, 1, 0)), (7, 1))
        self.assertEqual((led(HILL, 0, -9), led(HILL, 1, -4)), (-2, -2))
        self.assertEqual((led(HILL, 0, -8), led(HILL, 1, -5)), (-2, -2))

    def test_keeps_the_order_of_lines(self):
        for hill in plain.some_hills():
            around = plain.plain_year(hill)
            for ant in range(len(hill[1])):
                row = [led(hill, ant, line) for line in range(-around, around)]
                self.assertEqual(row, sorted(row), (hill, ant))


class Stretches(unittest.TestCase):
    def told(self, hill, expected):
        self.assertEqual(plain.kinds(stretches(hill)), plain.kinds(expected))

    def test_beside_each_number_of_a_year(self):
        for hill in plain.HILLS + tuple(plain.small_hills()):
            around = plain.plain_year(hill)
            lost = [number > 0 for number in plain.plain_losses_of_year(hill)]
            expected = []
            for low in range(around):
                if lost[low] and not lost[low - 1]:
                    high = low
                    while lost[(high + 1) % around]:
                        high += 1
                    expected.append((low, high))
            with self.subTest(hill=hill):
                self.told(hill, expected)

    def test_all_pots(self):
        year, needs, _ = plain.MONTHS
        for most in range(40):
            hill = (year, needs, most)
            lost = plain.plain_losses_of_year(hill)
            pairs = stretches(hill)
            self.assertEqual(pairs, sorted(set(pairs)))
            inside = sorted(number % 45 for low, high in pairs for number in range(low, high + 1))
            self.assertEqual(inside, [number for number in range(45) if lost[number] > 0], most)

    def test_by_hand(self):
        self.told(HILL, [(4, 6)])
        self.told((HILL[0], HILL[1], 0), [(1, 2), (4, 8)])

    def test_over_the_years_end(self):
        # The totals are 2 and 3, then 12 and 13: between 3 and 12 the year's 10 drops are over.
        hill = (((2, True), (1, True), (7, False)), (1,), 1)
        self.told(hill, [(4, 10)])
        self.told((hill[0], (1,), 0), [(4, 11)])

    def test_low_is_below_the_years_drops(self):
        # The open evening's total is a drop less than the year's: low is the year's end, so 0.
        self.told((((9, True), (1, False)), (1,), 3), [(0, 5)])
        # It's the year's: low is 1.
        self.told((((9, False), (1, True)), (1,), 3), [(1, 6)])

    def test_one_open_day(self):
        self.told((((10, True),), (1,), 0), [(1, 9)])
        self.told((((10, True),), (1,), 8), [(1, 1)])
        self.told((((10, True),), (1,), 9), [])
        self.told((((4, False), (0, True), (6, False)), (1,), 0), [(5, 13)])

    def test_open_evenings_that_bring_nothing(self):
        year = ((0, True), (4, True), (0, True), (0, True), (6, True), (0, True))
        self.told((year, (1,), 0), [(1, 3), (5, 9)])
        self.told((year, (1,), 3), [(5, 6)])
        self.told((((0, True), (10, False), (0, True), (0, True)), (1,), 0), [(1, 9)])

    def test_pots_that_leave_none(self):
        for hill in plain.some_hills():
            around = plain.plain_year(hill)
            for most in (around - 1, around, 10 ** 12, FAR):
                self.told((hill[0], hill[1], most), [])
        year, needs, _ = plain.MONTHS
        # The most that an open evening brings is 13.
        self.assertEqual([len(stretches((year, needs, most))) for most in (11, 12, 13)], [1, 0, 0])

    def test_a_pot_of_nought(self):
        for hill in plain.HILLS + tuple(plain.small_hills()):
            bare = (hill[0], hill[1], 0)
            around = plain.plain_year(bare)
            days = [day for day in range(len(bare[0])) if plain.is_open(bare, day)]
            totals = {plain.plain_given_by(bare, day) % around for day in days}
            inside = [number % around for low, high in stretches(bare) for number in range(low, high + 1)]
            out = [number for number in range(around) if number not in totals]
            self.assertEqual(sorted(inside), out, hill)

    def test_great(self):
        # The totals are 10 ** 12, 2 * 10 ** 12 + 6 and, a year of 3 * 10 ** 12 + 6 on, 4 * 10 ** 12 + 6.
        most = 10 ** 9
        self.told(GREAT, [
            (10 ** 12 + 1, 2 * 10 ** 12 + 5 - most), (2 * 10 ** 12 + 7, 4 * 10 ** 12 + 5 - most),
        ])
        for low, high in stretches(GREAT):
            beside = [lost_at(GREAT, number) for number in (low - 1, low, high, high + 1)]
            self.assertEqual(beside, [0, high - low + 1, 1, 0])

    def test_great_ends(self):
        for most in (0, 1, 10 ** 9, 10 ** 12 - 2, 10 ** 12 - 1, 10 ** 12):
            hill = (((10 ** 12, True),) * 11 + ((5, False),), (10 ** 12,) * 6, most)
            pairs = stretches(hill)
            self.assertEqual(len(pairs), 11 if most < 10 ** 12 - 1 else 1 if most < 10 ** 12 + 4 else 0)
            for low, high in pairs:
                self.assertTrue(0 <= low < year_drops(hill) and low <= high)
                beside = [lost_at(hill, number) for number in (low - 1, low, high, high + 1)]
                self.assertEqual(beside, [0, high - low + 1, 1, 0])


class HandedIn(unittest.TestCase):
    def test_asking(self):
        for ask, names, handed in (
            (line_of, ("hill", "state"), (HILL, (2, 0, 1))),
            (stretches, ("hill",), (HILL,)),
            (lost_at, ("hill", "number"), (HILL, 4)),
            (led, ("hill", "ant", "line"), (HILL, 0, 1)),
        ):
            with self.subTest(ask=ask):
                plain.check_asking(self, ask, names, handed, OTHER)

    def test_a_bare_list_is_the_askers_own(self):
        hill = (((3, True),), (1,), 3)
        told = stretches(hill)
        told.append((0, 0))
        self.assertEqual(stretches(hill), [])


if __name__ == "__main__":
    unittest.main()
