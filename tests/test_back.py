import random
import unittest

from honeyturns.back import latest_line, least_pot, pots_seen
from honeyturns.far import behind, gone_by
from honeyturns.hills import given_by, open_from, year_drops
from honeyturns.lines import led
from honeyturns.turns import turns

import plain

HILL = (((12, True), (0, False)), (5, 3), 8)
OTHER = (((12, True), (0, False)), (5, 4), 7)
FAR = 10 ** 40


def hills():
    return plain.HILLS + tuple(plain.small_hills()[::7]) + (HILL, OTHER)


def plain_led_by(hill, ant, many, line, lost):
    for past in range(many):
        line = plain.plain_led(hill, (ant + past) % len(hill[1]), line, lost)
    return line


def great_led_by(hill, ant, many, line):
    for past in range(many):
        line += hill[1][(ant + past) % len(hill[1])]
        line += plain.lost_there(hill, line)
    return line


def evenings_of(hill, state, many):
    return [at[0] for at, _ in plain.plain_turns(hill, state, many)]


def last_evening(hill, state, many):
    return turns(hill, state, many)[-1][0][0]


def plain_least_pot(hill, day, ant, many, by):
    """Each pot in turn, from the least one on."""
    for pot in range(hill[2] + 1):
        if all(evening <= by for evening in evenings_of(hill, (day, ant, pot), many)):
            return pot
    return None


def plain_pots_seen(hill, day, ant, evenings):
    """All pots of which the first turns go on these evenings, by trying each."""
    return [
        pot for pot in range(hill[2] + 1)
        if evenings_of(hill, (day, ant, pot), len(evenings)) == list(evenings)
    ]


class LatestLine(unittest.TestCase):
    def test_beside_plain_turns(self):
        chance = random.Random(1)
        for hill in hills():
            lost = plain.plain_losses_of_year(hill)
            for ant in range(len(hill[1])):
                for many in (0, 1, 2, 3, 4, 7, 12, 20):
                    for line in [chance.randrange(-40, 60) for _ in range(6)] + [0, -1, 1]:
                        told = latest_line(hill, ant, many, line)
                        self.assertIs(type(told), int)
                        self.assertLessEqual(plain_led_by(hill, ant, many, told, lost), line, (hill, ant, many))
                        self.assertGreater(plain_led_by(hill, ant, many, told + 1, lost), line, (hill, ant, many))

    def test_all_lines_of_a_year(self):
        for hill in (HILL, OTHER) + plain.HILLS:
            lost = plain.plain_losses_of_year(hill)
            for ant in range(len(hill[1])):
                for many in (1, 2, 5):
                    for line in range(-len(lost), len(lost) + 1):
                        told = latest_line(hill, ant, many, line)
                        ends = [plain_led_by(hill, ant, many, told + more, lost) for more in (0, 1)]
                        self.assertTrue(ends[0] <= line < ends[1], (hill, ant, many, line))

    def test_of_no_turns_the_line_itself(self):
        for hill in plain.HILLS + plain.GREAT:
            for line in (-FAR, -1, 0, 1, 2, FAR):
                self.assertEqual(latest_line(hill, len(hill[1]) - 1, 0, line), line)

    def test_by_hand(self):
        # At 1, 2, 3 and whole twelves something is lost: ant 0 leads -4, -3, -2 and -1 to 4.
        self.assertEqual([latest_line(HILL, 0, 1, line) for line in range(6)], [-5, -5, -5, -5, -1, 0])
        # Two turns lead -8 to -3 to 0, -7 to 4, -5 to 0 and 4, -4 to -1 to 4 and 7, 0 to 5 and 8.
        self.assertEqual([latest_line(HILL, 0, 2, line) for line in (3, 4, 6, 7, 8)], [-8, -5, -5, -1, 0])
        self.assertEqual(latest_line(HILL, 1, 1, 4), 1)

    def test_lines_that_none_is_led_to(self):
        # Of 10 drops a day without a pot all of a day's lines are led to its evening.
        hill = (((10, True),), (3,), 0)
        for line in range(-20, 40):
            told = latest_line(hill, 0, 1, line)
            self.assertEqual(told, line // 10 * 10 - 3)
            self.assertEqual((led(hill, 0, told), led(hill, 0, told + 1)), (line // 10 * 10, line // 10 * 10 + 10))

    def test_by_whole_years_more(self):
        for hill in hills()[::3] + plain.GREAT:
            for many in (1, 9, 60):
                for line in (-1, 0, 5, 10 ** 13 + 7):
                    told = latest_line(hill, 0, many, line)
                    for years in (1, -1, FAR, -FAR):
                        drops = years * year_drops(hill)
                        self.assertEqual(latest_line(hill, 0, many, line + drops), told + drops, (hill, line))

    def test_two_in_a_row_are_both_together(self):
        for hill in hills()[::3] + plain.GREAT:
            ants = len(hill[1])
            for ant in range(ants):
                for one, other in ((1, 1), (3, 8), (50, 11)):
                    for line in (3, 10 ** 13):
                        middle = latest_line(hill, (ant + one) % ants, other, line)
                        expected = latest_line(hill, ant, one, middle)
                        self.assertEqual(latest_line(hill, ant, one + other, line), expected)

    def test_great(self):
        chance = random.Random(2)
        for hill in plain.GREAT:
            for many in (1, 2, 40, 400):
                line = chance.randrange(-FAR, FAR)
                told = latest_line(hill, 0, many, line)
                self.assertLessEqual(great_led_by(hill, 0, many, told), line, (hill, many))
                self.assertGreater(great_led_by(hill, 0, many, told + 1), line, (hill, many))


class LeastPot(unittest.TestCase):
    def told(self, hill, day, ant, many, by, expected):
        told = least_pot(hill, day, ant, many, by)
        self.assertEqual(plain.kinds(told), plain.kinds(expected), (hill, day, ant, many, by))

    def test_beside_each_pot_in_turn(self):
        chance = random.Random(3)
        several = []
        for hill in hills():
            for day in range(len(hill[0]) + 2):
                if plain.is_open(hill, day):
                    for ant in range(len(hill[1])):
                        many = chance.choice((1, 1, 2, 3, 5, 9))
                        last = evenings_of(hill, (day, ant, chance.randrange(hill[2] + 1)), many)[-1]
                        for by in sorted({day, day + 1, last, last + 1, max(day, last - 1)}):
                            expected = plain_least_pot(hill, day, ant, many, by)
                            several.append(expected)
                            self.told(hill, day, ant, many, by, expected)
        self.assertGreater(several.count(None), 50)
        self.assertGreater(several.count(0), 50)
        self.assertGreater(sum(pot not in (None, 0) for pot in several), 50)

    def test_no_turns(self):
        for hill in plain.HILLS + plain.GREAT:
            day = open_from(hill, 3)
            self.told(hill, day, 0, 0, day, 0)
            self.told(hill, day, 0, 0, day + FAR, 0)

    def test_by_hand(self):
        # On its own evening ant 0 goes with 5, ant 1 then with 3 more.
        self.assertEqual([least_pot(HILL, 0, 0, many, 0) for many in range(4)], [0, 5, 8, None])
        # By day 2 12 more: 5, 3 and 5 are 13. With 4 3 of them are lost, with 5 ant 0 goes on day 0.
        self.assertEqual([least_pot(HILL, 0, 0, many, 2) for many in range(1, 6)], [0, 0, 1, 5, None])
        # Day 1 is shut.
        self.assertEqual([least_pot(HILL, 0, 0, many, 1) for many in range(1, 4)], [5, 8, None])
        self.assertEqual([least_pot(HILL, 0, 0, many, 3) for many in range(1, 6)], [0, 0, 1, 5, None])

    def test_what_is_lost_on_the_way(self):
        # Of what is left of 9 the pot keeps 1: by day 2 no pot does three turns of 4.
        hill = (((9, True),), (4,), 1)
        for many in range(1, 8):
            for by in range(6):
                self.told(hill, 0, 0, many, by, plain_least_pot(hill, 0, 0, many, by))
        self.assertEqual([least_pot(hill, 0, 0, many, 2) for many in (2, 3, 4, 5)], [0, None, None, None])

    def test_great_pots_at_their_ends(self):
        hill = (((10 ** 12, True), (0, False)), (1, 10 ** 12), 10 ** 12)
        # One turn wants 1, two want 1 and 10 ** 12.
        self.assertEqual([least_pot(hill, 0, 0, many, 1) for many in (1, 2)], [1, None])
        self.assertEqual([least_pot(hill, 0, 1, many, 1) for many in (1, 2)], [10 ** 12, None])
        # By day 2 10 ** 12 more.
        self.assertEqual([least_pot(hill, 0, 0, many, 2) for many in (1, 2, 3, 4, 5)], [0, 1, 2, None, None])
        self.assertEqual(least_pot((hill[0], (10 ** 12 - 1,), 10 ** 12), 0, 0, 2, 3), 10 ** 12 - 2)

    def test_a_pot_less_does_not(self):
        chance = random.Random(4)
        met = 0
        for hill in plain.GREAT:
            for begin in (0, FAR, FAR + 7):
                day = open_from(hill, begin)
                for ant in range(len(hill[1])):
                    for many in (1, 2, 3, 20, 400):
                        pot = chance.randrange(hill[2] + 1)
                        by = last_evening(hill, (day, ant, pot), many)
                        told = least_pot(hill, day, ant, many, by)
                        self.assertLessEqual(told, pot)
                        self.assertLessEqual(last_evening(hill, (day, ant, told), many), by)
                        if told:
                            met += 1
                            self.assertGreater(last_evening(hill, (day, ant, told - 1), many), by)
        self.assertGreater(met, 50)

    def test_as_gone_by_tells(self):
        for hill in plain.GREAT:
            day = open_from(hill, FAR)
            for many in (2, 400):
                by = behind(hill, (day, 0, hill[2] // 2), many)[0]
                told = least_pot(hill, day, 0, many, by)
                self.assertGreaterEqual(gone_by(hill, (day, 0, told), by), many)
                if told:
                    self.assertLess(gone_by(hill, (day, 0, told - 1), by), many)

    def test_none_where_the_greatest_does_not(self):
        for hill in plain.GREAT:
            day = open_from(hill, FAR)
            for many in (1, 2, 7, 100):
                last = behind(hill, (day, 0, hill[2]), many)[0]
                self.assertIsNotNone(least_pot(hill, day, 0, many, last))
                if last > day:
                    self.assertIsNone(least_pot(hill, day, 0, many, last - 1))

    def test_by_far_off(self):
        for hill in plain.HILLS + plain.GREAT:
            for many in (1, 400):
                self.told(hill, open_from(hill, 0), 0, many, FAR, 0)

    def test_by_whole_years_more(self):
        for hill in hills()[::3] + plain.GREAT:
            day = open_from(hill, 2)
            for many in (1, 2, 6):
                for by in (day, day + 1, day + 4):
                    days = FAR * len(hill[0])
                    self.told(hill, day + days, 0, many, by + days, least_pot(hill, day, 0, many, by))


class PotsSeen(unittest.TestCase):
    def told(self, hill, day, ant, evenings, pots):
        expected = (pots[0], pots[-1]) if pots else None
        self.assertEqual(plain.kinds(pots_seen(hill, day, ant, evenings)), plain.kinds(expected), (hill, day, evenings))

    def test_beside_each_pot_in_turn(self):
        chance = random.Random(5)
        none = several = alone = 0
        for hill in hills():
            for day in range(len(hill[0]) + 2):
                if plain.is_open(hill, day):
                    for ant in range(len(hill[1])):
                        many = chance.choice((1, 2, 3, 4, 8))
                        right = evenings_of(hill, (day, ant, chance.randrange(hill[2] + 1)), many)
                        spoilt = sorted(max(day, evening + chance.choice((-1, 0, 0, 1))) for evening in right)
                        for evenings in (right, spoilt):
                            pots = plain_pots_seen(hill, day, ant, evenings)
                            self.assertEqual(pots, list(range(pots[0], pots[-1] + 1)) if pots else [])
                            self.told(hill, day, ant, evenings, pots)
                            none += not pots
                            alone += len(pots) == 1
                            several += 1 < len(pots) < hill[2] + 1
        self.assertTrue(none > 50 and alone > 50 and several > 50, (none, alone, several))

    def test_all_evenings_of_few_days(self):
        for hill in (HILL, (((2, True), (1, False), (4, True)), (3, 1), 5), (((1, True), (0, True)), (2,), 4)):
            for day in (0, 6):
                for one in range(day, day + 7):
                    self.told(hill, day, 0, [one], plain_pots_seen(hill, day, 0, [one]))
                    for other in range(one, day + 9):
                        for ant in range(len(hill[1])):
                            pots = plain_pots_seen(hill, day, ant, [one, other])
                            self.told(hill, day, ant, [one, other], pots)

    def test_bare_evenings(self):
        for hill in plain.HILLS + plain.GREAT:
            for day in (open_from(hill, 0), open_from(hill, FAR)):
                told = pots_seen(hill, day, len(hill[1]) - 1, [])
                self.assertEqual(plain.kinds(told), plain.kinds((0, hill[2])))

    def test_by_hand(self):
        # With 5 to 7 ant 0 goes on the day itself, with 8 ant 1, too.
        self.assertEqual([pots_seen(HILL, 0, 0, [day]) for day in (0, 1, 2, 3, 4)], [(5, 8), None, (0, 4), None, None])
        self.assertEqual(pots_seen(HILL, 0, 0, [0, 0]), (8, 8))
        self.assertEqual([pots_seen(HILL, 0, 0, [0, 2]), pots_seen(HILL, 0, 0, [2, 2])], [(5, 7), (0, 4)])
        # From 12 and the pot 5, 3 and 5 go: with 1 on one evening.
        self.assertEqual([pots_seen(HILL, 0, 0, [2, 2, 2]), pots_seen(HILL, 0, 0, [2, 2, 4])], [(1, 4), (0, 0)])
        self.assertIsNone(pots_seen(HILL, 0, 0, [0, 0, 0]))

    def test_shut_days(self):
        for hill in plain.HILLS:
            for day in range(len(hill[0])):
                if plain.is_open(hill, day):
                    for shut in range(day, day + len(hill[0])):
                        if not plain.is_open(hill, shut):
                            self.assertIsNone(pots_seen(hill, day, 0, [shut]))
                            self.assertIsNone(pots_seen(hill, day, 0, [day, shut, shut]))

    def test_an_evening_that_brings_nothing(self):
        hill = (((4, True), (0, True), (0, True), (3, True)), (2, 1), 9)
        for evenings in ([1], [2], [0, 0, 1], [3, 4, 5], [3, 3, 4, 4, 6]):
            self.assertIsNone(pots_seen(hill, 0, 0, evenings))
        self.assertEqual(pots_seen(hill, 1, 0, [1, 1]), (3, 9))
        self.assertEqual(pots_seen(hill, 1, 0, [3]), (0, 1))

    def test_too_early_and_too_late(self):
        for hill in (HILL, OTHER) + plain.HILLS:
            day = open_from(hill, 0)
            first = evenings_of(hill, (day, 0, hill[2]), 20)
            last = evenings_of(hill, (day, 0, 0), 20)
            early = first[:-1] + [max(first[-2], open_from(hill, day))]
            self.told(hill, day, 0, early, plain_pots_seen(hill, day, 0, early))
            late = last[:-1] + [open_from(hill, last[-1] + 1)]
            self.told(hill, day, 0, late, plain_pots_seen(hill, day, 0, late))
            self.assertIsNone(pots_seen(hill, day, 0, [open_from(hill, FAR)]))

    def test_great(self):
        chance = random.Random(6)
        narrow = 0
        for hill in plain.GREAT:
            for begin in (0, FAR + 5):
                day = open_from(hill, begin)
                for ant in range(len(hill[1])):
                    for many in (1, 2, 30, 60):
                        pot = chance.randrange(hill[2] + 1)
                        evenings = [at[0] for at, _ in turns(hill, (day, ant, pot), many)]
                        low, high = pots_seen(hill, day, ant, evenings)
                        self.assertTrue(0 <= low <= pot <= high <= hill[2])
                        narrow += high - low < hill[2]
                        for other in (low, high, (low + high) // 2, low - 1, high + 1):
                            if 0 <= other <= hill[2]:
                                row = [at[0] for at, _ in turns(hill, (day, ant, other), many)]
                                self.assertEqual(row == evenings, low <= other <= high, (hill, day, ant, many))
        self.assertGreater(narrow, 30)

    def test_by_whole_years_more(self):
        for hill in hills()[::3]:
            day = open_from(hill, 1)
            days = FAR * len(hill[0])
            for pot in range(hill[2] + 1):
                row = evenings_of(hill, (day, 0, pot), 6)
                far = [evening + days for evening in row]
                self.assertEqual(pots_seen(hill, day + days, 0, far), pots_seen(hill, day, 0, row))

    def test_beside_least_pot(self):
        for hill in hills()[::3]:
            day = open_from(hill, 0)
            row = evenings_of(hill, (day, 0, 0), 1)
            self.assertEqual(pots_seen(hill, day, 0, row)[0], least_pot(hill, day, 0, 1, row[0]))


class HandedIn(unittest.TestCase):
    def test_asking(self):
        plain.check_asking(self, latest_line, ("hill", "ant", "many", "line"), (HILL, 1, 5, 40), OTHER)
        plain.check_asking(self, least_pot, ("hill", "day", "ant", "many", "by"), (HILL, 2, 1, 2, 2), OTHER)
        plain.check_asking(self, pots_seen, ("hill", "day", "ant", "evenings"), (HILL, 2, 0, (2, 2)), OTHER)

    def test_told_is_handed_in_again(self):
        for hill in plain.HILLS + plain.GREAT:
            line = given_by(hill, FAR)
            for _ in range(3):
                line = latest_line(hill, 0, 30, line * 10 ** 20)
            day = open_from(hill, abs(line))
            pot = least_pot(hill, day, 0, 1, open_from(hill, day + 1))
            if pot is not None:
                row = [at[0] for at, _ in turns(hill, (day, 0, pot), 5)]
                low, high = pots_seen(hill, day, 0, row)
                self.assertTrue(low <= pot <= high)


if __name__ == "__main__":
    unittest.main()
