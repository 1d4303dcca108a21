import unittest

from honeyturns.hills import is_hill, ring_needs, year_drops
from honeyturns.lines import stretches
from honeyturns.pots import enough, least_for, least_sparing, with_pot
from honeyturns.rounds import pace
from honeyturns.sparing import sparing, spares

import plain

HILL = (((12, True), (0, False)), (5, 3), 8)
OTHER = (((12, True), (0, False)), (5, 4), 7)
FAR = 10 ** 40
TRILLION = 10 ** 12


def hills():
    return plain.HILLS + tuple(plain.small_hills()[::7]) + (HILL, OTHER)


def potted(hill, most):
    return hill[0], hill[1], most


def paces():
    """Some paces, in lowest terms and not."""
    return [(rounds, years) for rounds in (1, 2, 3, 4, 5, 6, 9, 12) for years in (1, 2, 3, 4, 6, 8)]


class WithPot(unittest.TestCase):
    def test_beside_the_hill(self):
        for hill in hills():
            for most in (0, 1, hill[2], 10 ** 12, FAR):
                told = with_pot(hill, most)
                self.assertEqual(plain.kinds(told), plain.kinds((hill[0], hill[1], most)))
                self.assertIs(is_hill(told), True)

    def test_tuples_whatever_was_handed_in(self):
        for hill in plain.HILLS[:3] + (HILL,):
            expected = plain.kinds(potted(hill, 6))
            for way in plain.with_lists(hill):
                self.assertEqual(plain.kinds(with_pot(way, 6)), expected)

    def test_handed_in_lists_are_not_kept(self):
        hill = plain.all_lists(HILL)
        told = with_pot(hill, 4)
        hill[0][0][0], hill[1][0], hill[2] = 7, 7, 7
        hill[0].append([3, True])
        self.assertEqual(told, (((12, True), (0, False)), (5, 3), 4))


class Enough(unittest.TestCase):
    def test_beside_trying_each_pot_in_turn(self):
        for hill in hills():
            most = 0
            while any(plain.plain_losses_of_year(potted(hill, most))):
                most += 1
            self.assertEqual(plain.kinds(enough(hill)), plain.kinds(most), hill)

    def test_no_stretches_just_from_there(self):
        for hill in hills() + plain.GREAT:
            told = enough(hill)
            for more in (0, 1, FAR):
                self.assertEqual(stretches(with_pot(hill, told + more)), [])
            if told:
                self.assertNotEqual(stretches(with_pot(hill, told - 1)), [])

    def test_whatever_its_pot(self):
        for hill in hills()[::5] + plain.GREAT:
            self.assertEqual({enough(potted(hill, most)) for most in (0, 1, 5, TRILLION)}, {enough(hill)})

    def test_by_hand(self):
        self.assertEqual([enough(HILL), enough(plain.ONE_DAY)], [11, 0])
        # What shut days give counts with the open evening behind them.
        self.assertEqual(enough((((2, True), (5, False), (7, False), (3, True)), (1,), 0)), 14)
        self.assertEqual(enough((((2, True), (3, True), (7, False)), (1,), 0)), 8)
        # An evening that brings nothing parts nothing.
        self.assertEqual(enough((((4, True), (0, True), (9, False), (0, True)), (1,), 0)), 8)
        # One evening that brings a whole year's.
        self.assertEqual(enough((((2, False), (3, True), (7, False)), (1,), 0)), 11)

    def test_great(self):
        self.assertEqual(enough(plain.SELDOM), TRILLION - 1)
        self.assertEqual(enough((((TRILLION, False),) * 11 + ((TRILLION, True),), (1,), 0)), 12 * TRILLION - 1)


class LeastSparing(unittest.TestCase):
    def test_beside_trying_each_pot_in_turn(self):
        nought = between = 0
        for hill in hills():
            most = 0
            while not plain.plain_classes(potted(hill, most), 0):
                most += 1
            nought += most == 0
            between += 0 < most < enough(hill)
            self.assertEqual(plain.kinds(least_sparing(hill)), plain.kinds(most), hill)
        self.assertTrue(nought > 20 and between > 20, (nought, between))

    def test_it_spares_just_from_there(self):
        for hill in hills() + plain.GREAT:
            told = least_sparing(hill)
            self.assertLessEqual(told, enough(hill))
            for more in (0, 1, 5, FAR):
                self.assertIs(spares(with_pot(hill, told + more)), True)
            for less in (1, 2, told):
                if 1 <= less <= told:
                    self.assertIs(spares(with_pot(hill, told - less)), False)

    def test_by_hand(self):
        # Of 12 drops and a ring of 8 classes 0 to 3: one spares where the pot holds 8.
        self.assertEqual(least_sparing((((12, True),), (8,), 0)), 8)
        self.assertEqual(least_sparing((((12, True),), (12,), 7)), 0)
        self.assertEqual(least_sparing((((12, True),), (5,), 0)), 11)

    def test_great(self):
        self.assertEqual(least_sparing(plain.HALVES), TRILLION // 2)
        self.assertEqual(least_sparing(plain.SELDOM), enough(plain.SELDOM))
        self.assertEqual(least_sparing((((TRILLION, True),) * 12, (TRILLION,) * 6, 5)), 0)


class LeastFor(unittest.TestCase):
    def test_beside_trying_each_pot_in_turn(self):
        told_kinds = set()
        for hill in plain.HILLS + tuple(plain.small_hills()[::25]) + (HILL, OTHER):
            row = [self.plain_pace(potted(hill, most)) for most in range(enough(hill) + 1)]
            for rounds, years in paces():
                found = [most for most, own in enumerate(row) if own[0] * years >= rounds * own[1]]
                expected = found[0] if found else None
                told = least_for(hill, rounds, years)
                self.assertEqual(plain.kinds(told), plain.kinds(expected), (hill, rounds, years))
                told_kinds.add("none" if told is None else "nought" if told == 0 else "more")
                if told:
                    told_kinds.add("all" if told == least_sparing(hill) else "between")
        self.assertEqual(told_kinds, {"none", "nought", "more", "all", "between"})

    def plain_pace(self, hill):
        state = plain.some_states(hill)[0]
        rows, again = plain.plain_way(hill, state)
        drops = plain.plain_line(hill, rows[-1][0]) - plain.plain_line(hill, rows[again][0])
        return (len(rows) - 1 - again) // len(hill[1]), drops // plain.plain_year(hill)

    def test_greater_pots_are_never_worse(self):
        for hill in hills()[::4]:
            row = [pace(with_pot(hill, most)) for most in range(enough(hill) + 3)]
            for one, other in zip(row, row[1:]):
                self.assertLessEqual(one[0] * other[1], other[0] * one[1], hill)

    def test_with_a_common_divisor(self):
        for hill in hills()[::9] + plain.GREAT:
            for rounds, years in ((1, 1), (3, 2)):
                told = least_for(hill, rounds, years)
                for times in (2, 10 ** 20):
                    self.assertEqual(least_for(hill, rounds * times, years * times), told, (hill, rounds, years))

    def test_of_the_hills_own_pace(self):
        for hill in hills()[::3] + plain.GREAT:
            rounds, years = pace(hill)
            told = least_for(hill, rounds, years)
            self.assertLessEqual(told, hill[2])
            self.assertEqual(pace(with_pot(hill, told)), (rounds, years))
            if told:
                own = pace(with_pot(hill, told - 1))
                self.assertLess(own[0] * years, rounds * own[1])

    def test_the_quickest_of_all_and_quicker(self):
        for hill in hills() + plain.GREAT:
            rounds, years = year_drops(hill), ring_needs(hill)
            told = least_for(hill, rounds, years)
            self.assertEqual(plain.kinds(told), plain.kinds(least_sparing(hill)))
            self.assertIsNone(least_for(hill, rounds + 1, years))
            self.assertIsNone(least_for(hill, rounds * FAR + 1, years * FAR))
            self.assertIsNotNone(least_for(hill, rounds * FAR - 1, years * FAR))

    def test_great(self):
        for hill in plain.GREAT:
            for rounds, years in ((2, 1), (5, 3), (1, FAR), (FAR, 10 ** 39 * 8)):
                told = least_for(hill, rounds, years)
                if rounds * ring_needs(hill) > years * year_drops(hill):
                    self.assertIsNone(told)
                else:
                    own = pace(with_pot(hill, told))
                    self.assertGreaterEqual(own[0] * years, rounds * own[1])
                    if told:
                        own = pace(with_pot(hill, told - 1))
                        self.assertLess(own[0] * years, rounds * own[1], (hill, rounds, years))

    def test_by_hand(self):
        hill = (((12, True),), (8,), 0)
        # Without a pot a round takes a day; with 8 of 12 left over, three take two.
        self.assertEqual([least_for(hill, *own) for own in ((1, 1), (3, 3), (3, 2), (6, 4), (2, 1))], [0, 0, 8, 8, None])
        # For a second turn on one evening the pot is to keep 5 behind the first one.
        self.assertEqual([least_for((((12, True),), (5,), 0), *own) for own in ((1, 1), (2, 1), (12, 5))], [0, 5, 11])

    def test_whatever_its_pot(self):
        for hill in hills()[::20]:
            told = {least_for(potted(hill, most), 2, 3) for most in (0, 1, 5, TRILLION)}
            self.assertEqual(told, {least_for(hill, 2, 3)})


class HandedIn(unittest.TestCase):
    def test_asking(self):
        plain.check_asking(self, with_pot, ("hill", "most"), (HILL, 3), OTHER)
        plain.check_asking(self, enough, ("hill",), (HILL,), (((13, True), (0, False)), (5, 3), 8))
        plain.check_asking(self, least_sparing, ("hill",), (HILL,), OTHER)
        plain.check_asking(self, least_for, ("hill", "rounds", "years"), (HILL, 4, 3), OTHER)

    def test_told_is_handed_in_again(self):
        for hill in plain.HILLS + plain.GREAT:
            told = with_pot(hill, least_sparing(hill))
            self.assertEqual(with_pot(told, hill[2]), hill)
            self.assertEqual(least_for(told, *pace(told)), told[2])
            self.assertTrue(sparing(told, 0))


if __name__ == "__main__":
    unittest.main()
