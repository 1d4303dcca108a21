import itertools
import math
import unittest

from honeyturns.lines import line_of
from honeyturns.sparing import common, lost_in_all, spares, sparing
from honeyturns.turns import turns

import plain

HILL = (((6, True), (0, False), (6, True)), (5, 3), 2)
OTHER = (((6, True), (0, False), (6, True)), (4, 2), 3)
FAR = 10 ** 40


def hills_with_classes():
    """Hills of which the year's drops and the ring's needs have something in common, of many pots."""
    years = (
        ((12, True),),
        ((0, True), (12, True)),
        ((6, True), (6, True)),
        ((6, False), (0, True), (6, True), (0, True)),
        ((5, True), (4, True), (3, True)),
        ((1, True), (3, False), (8, True), (4, False), (8, False)),
    )
    rings = ((4,), (6,), (5, 1), (3, 2, 4), (12, 24), (1, 2, 2, 3, 3, 1), (6, 6, 6, 6), (7, 1))
    return list(itertools.product(years, rings, range(13)))


def pairs_of(numbers):
    """The pairs (low, high), as long as they can be, of rising numbers."""
    pairs = []
    for number in numbers:
        if pairs and pairs[-1][1] == number - 1:
            pairs[-1] = (pairs[-1][0], number)
        else:
            pairs.append((number, number))
    return pairs


class Common(unittest.TestCase):
    def test_beside_each_number(self):
        for hill in plain.HILLS + tuple(plain.small_hills()) + tuple(hills_with_classes()):
            self.assertEqual(plain.kinds(common(hill)), plain.kinds(plain.plain_common(hill)), hill)

    def test_by_hand(self):
        year = ((8, True), (4, False))
        self.assertEqual([common((year, (need,), 0)) for need in (1, 2, 8, 9, 12, 24, 36)], [1, 2, 4, 3, 12, 12, 12])
        self.assertEqual(common((year, (4, 5), 0)), 3)

    def test_great(self):
        year = ((10 ** 12, True),) * 12
        self.assertEqual(common((year, (10 ** 12,) * 6, 0)), 6 * 10 ** 12)
        self.assertEqual(common((year, (10 ** 12, 1), 0)), math.gcd(12 * 10 ** 12, 10 ** 12 + 1))
        self.assertEqual(common((year, (2 ** 39, 2 ** 38), 0)), 3 * 2 ** 14)


class Sparing(unittest.TestCase):
    def test_beside_each_class(self):
        for hill in hills_with_classes() + list(plain.HILLS) + plain.small_hills()[::5]:
            for ant in range(len(hill[1])):
                expected = pairs_of(plain.plain_classes(hill, ant))
                self.assertEqual(plain.kinds(sparing(hill, ant)), plain.kinds(expected), (hill, ant))

    def test_there_are_hills_of_each_sort(self):
        told = [sparing(hill, 0) for hill in hills_with_classes()]
        whole = [pairs for hill, pairs in zip(hills_with_classes(), told) if pairs == [(0, common(hill) - 1)]]
        some = [pairs for hill, pairs in zip(hills_with_classes(), told) if pairs and pairs not in whole]
        bare = [pairs for pairs in told if not pairs]
        many = [pairs for pairs in some if len(pairs) > 2]
        self.assertTrue(min(len(whole), len(some), len(bare), len(many)) > 5)

    def test_by_hand(self):
        # A year's 12 in one evening, a pot of 8: at 1, 2, 3 something is lost. Needs are 5 and 3, common is 4.
        hill = (((12, True),), (5, 3), 8)
        self.assertEqual((sparing(hill, 0), sparing(hill, 1)), ([], []))
        # With a pot of 10 it's lost at 1: 0 and 5, and 1 and both needs, are of its class.
        hill = (((12, True),), (5, 3), 10)
        self.assertEqual((sparing(hill, 0), sparing(hill, 1)), ([(2, 3)], [(0, 0), (3, 3)]))

    def test_none_over_the_last_class(self):
        # Classes 5 and 0 to 3 spare: they're told apart.
        hill = (((6, True),), (6,), 4)
        self.assertEqual(sparing(hill, 0), [(0, 0), (2, 5)])
        hill = (((6, True),), (2, 4), 4)
        self.assertEqual((sparing(hill, 0), sparing(hill, 1)), ([(0, 0), (2, 4)], [(0, 0), (2, 2), (4, 5)]))

    def test_no_stretches(self):
        for ant in range(2):
            self.assertEqual(sparing((((12, True),), (5, 3), 11), ant), [(0, 3)])
        self.assertEqual(sparing((((12, True),), (5, 2), 11), 0), [(0, 0)])

    def test_a_stretch_over_all_classes(self):
        for needs in ((1,), (2,), (4,), (6,)):
            self.assertEqual(sparing((((12, True),), needs, 0), 0), [])
        self.assertEqual(sparing((((12, True),), (12,), 0), 0), [(0, 0)])
        self.assertEqual(sparing((((12, True),), (36,), 0), 0), [(0, 0)])

    def test_needs_that_a_years_drops_go_into(self):
        for years in (1, 2, 7, 10 ** 10):
            hill = (((12, True), (0, True)), (12 * years,), 7)
            # What is lost at are 1 to 4.
            self.assertEqual(sparing(hill, 0), [(0, 0), (5, 11)])
            hill = (((12, True), (0, True)), (12 * years - 2, 2), 7)
            self.assertEqual(sparing(hill, 0), [(0, 0), (7, 11)])
            self.assertEqual(sparing(hill, 1), [(5, 10)])

    def test_one_class(self):
        for hill in plain.some_hills():
            if common(hill) == 1:
                for ant in range(len(hill[1])):
                    expected = [(0, 0)] if not any(plain.plain_losses_of_year(hill)) else []
                    self.assertEqual(sparing(hill, ant), expected)

    def test_great(self):
        half, year = 10 ** 12 // 2, ((10 ** 12, True),)
        # Something is lost at 1 alone.
        hill = (year, (half, half), 10 ** 12 - 2)
        self.assertEqual(common(hill), 10 ** 12)
        self.assertEqual(sparing(hill, 0), [(0, 0), (2, half), (half + 2, 10 ** 12 - 1)])
        # Of the ant's own need all classes but the totals' are led into the stretch.
        hill = (year, (10 ** 12,), 0)
        self.assertEqual(sparing(hill, 0), [(0, 0)])
        hill = (((10 ** 12, True),) * 12, (10 ** 12,) * 6, 10 ** 12 - 10 ** 6)
        self.assertEqual(common(hill), 6 * 10 ** 12)
        expected = [(0, 0)] + [(k * 10 ** 12 + 10 ** 6, (k + 1) * 10 ** 12) for k in range(6)]
        expected[-1] = (expected[-1][0], 6 * 10 ** 12 - 1)
        self.assertEqual(sparing(hill, 3), expected)


class Spares(unittest.TestCase):
    def test_beside_each_class(self):
        for hill in hills_with_classes() + list(plain.HILLS) + plain.small_hills()[::5]:
            self.assertIs(spares(hill), len(plain.plain_classes(hill, 0)) > 0, hill)

    def test_the_same_whichever_ant_is_next(self):
        for hill in hills_with_classes():
            for ant in range(len(hill[1])):
                self.assertIs(spares(hill), len(sparing(hill, ant)) > 0)

    def test_great(self):
        half = 10 ** 12 // 2
        self.assertIs(spares((((10 ** 12, True),), (half, half), 10 ** 12 - 2)), True)
        self.assertIs(spares((((10 ** 12, True),), (half, half), half - 1)), False)
        self.assertIs(spares((((10 ** 12, True),), (half, half), half)), True)
        self.assertIs(spares((((10 ** 12, True),), (half, half - 1), 10 ** 12 - 2)), False)


class LostInAll(unittest.TestCase):
    def told(self, hill, state, expected):
        self.assertEqual(plain.kinds(lost_in_all(hill, state)), plain.kinds(expected), (hill, state))

    def test_beside_turns_till_they_come_round(self):
        hills = hills_with_classes()[::3] + list(plain.HILLS) + plain.small_hills()[::7]
        for hill in hills:
            for state in plain.some_states(hill):
                rows, again = plain.plain_way(hill, state)
                if any(lost for _, lost in rows[again + 1:]):
                    self.told(hill, state, None)
                else:
                    self.told(hill, state, sum(lost for _, lost in rows))

    def test_what_the_line_lacks(self):
        for hill in hills_with_classes():
            classes = plain.plain_classes(hill, 0)
            for state in plain.states_of(hill, len(hill[0])):
                if state[1] == 0 and classes:
                    around = plain.plain_common(hill)
                    own = plain.plain_line(hill, state)
                    lacks = min(many for many in range(around) if (own + many) % around in classes)
                    self.told(hill, state, lacks)

    def test_nought_where_nothing_is_lost(self):
        self.told((((12, True),), (5, 3), 11), (0, 0, 4), 0)
        self.told((((12, True),), (12,), 0), (0, 0, 0), 0)

    def test_none_of_a_hill_that_spills(self):
        for state in ((0, 0, 0), (0, 1, 8), (FAR, 0, 3)):
            self.told((((12, True),), (5, 3), 8), state, None)

    def test_around_to_the_least_class(self):
        # With ant 1 next classes 0 and 3 spare, with ant 0 next 2 and 3: of 0 it's two on, of 1 one.
        hill = (((12, True),), (5, 3), 10)
        for pot in range(11):
            line = 12 - pot
            self.told(hill, (0, 0, pot), (2, 1, 0, 0)[line % 4])
            self.told(hill, (0, 1, pot), (0, 2, 1, 0)[line % 4])
        # Classes 3 to 10 spare with ant 0 next: 3 is the next one of 11, 0, 1, 2.
        hill = (((12, True),), (2, 10), 9)
        self.assertEqual(sparing(hill, 0), [(3, 10)])
        self.assertEqual([lost_in_all(hill, (0, 0, pot)) for pot in range(10)], [3, 4] + [0] * 8)
        self.assertEqual([lost_in_all(hill, (0, 1, pot)) for pot in range(10)], [0, 0, 0, 0, 0, 0, 0, 0, 1, 2])

    def test_lines_below_nought(self):
        hill = (((12, True),), (5, 3), 30)
        self.assertEqual(line_of(hill, (0, 0, 30)), -18)
        self.told(hill, (0, 0, 30), 0)
        hill = (((2, True), (10, True), (0, True)), (6, 6), 7)
        for pot in range(8):
            for ant in (0, 1):
                state = (0, ant, pot)
                self.told(hill, state, sum(lost for _, lost in turns(hill, state, 40)))

    def test_great(self):
        half = 10 ** 12 // 2
        hill = (((10 ** 12, True),), (half, half), 10 ** 12 - 2)
        for day in (0, 10 ** 40):
            # The line is alike to 1, half + 1, or another.
            for pot, lacks in ((10 ** 12 - 2, 0), (half - 1, 1), (half, 0), (0, 0), (half - 2, 0)):
                self.told(hill, (day, 0, pot), lacks)
                self.assertEqual(sum(lost for _, lost in turns(hill, (day, 0, pot), 40)), lacks)
        hill = (((10 ** 12, True),), (10 ** 12,), 10 ** 12 // 2)
        for pot in (0, 1, half - 1, half):
            self.told(hill, (0, 0, pot), 0)
        hill = (((10 ** 12, False), (1, True), (10 ** 12 - 1, True)), (2 * 10 ** 12,), 10 ** 12 - 3)
        for pot in (0, 1, 2, 3, 10 ** 12 - 3):
            for day in (1, 2):
                state = (day, 0, pot)
                self.told(hill, state, sum(lost for _, lost in turns(hill, state, 40)))


class HandedIn(unittest.TestCase):
    def test_asking(self):
        state = (2, 0, 2)
        for ask, names, handed in (
            (common, ("hill",), (HILL,)),
            (sparing, ("hill", "ant"), (HILL, 1)),
            (spares, ("hill",), (HILL,)),
            (lost_in_all, ("hill", "state"), (HILL, state)),
        ):
            with self.subTest(ask=ask):
                plain.check_asking(self, ask, names, handed, OTHER)

    def test_a_bare_list_is_the_askers_own(self):
        hill = (((12, True),), (5, 3), 8)
        sparing(hill, 0).append((0, 0))
        self.assertEqual(sparing(hill, 0), [])


if __name__ == "__main__":
    unittest.main()
