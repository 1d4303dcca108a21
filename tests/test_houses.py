import random
import unittest

from honeyturns.back import latest_line
from honeyturns.errors import Unlike
from honeyturns.far import behind
from honeyturns.hills import year_drops
from honeyturns.houses import house, joined, led_by
from honeyturns.lines import led, line_of

import plain

HILL = (((12, True), (0, False)), (5, 3), 8)
OTHER = (((12, True), (0, False)), (5, 4), 7)
FAR = 10 ** 40


def hills():
    return plain.HILLS + tuple(plain.small_hills()[::17]) + (HILL, OTHER)


def plain_row(hill, ant, many, lines):
    """Each of the lines, rising ones, with what plain turns lead it to."""
    lost = plain.plain_losses_of_year(hill)
    row = []
    for line in lines:
        at = line
        for past in range(many):
            at = plain.plain_led(hill, (ant + past) % len(hill[1]), at, lost)
        row.append((line, at))
    return row


def plain_flats(around, needs, row):
    """The flats, of a row of lines over more than a year either way from 0 on."""
    ends = {}
    for line, to in row:
        first, _ = ends.get(to, (line, line))
        ends[to] = (first, line)
    return sorted(
        (low, high, to) for to, (low, high) in ends.items()
        if 0 <= low < around and (low < high or to > low + needs)
    )


def plain_house(hill, ant, many):
    around = plain.plain_year(hill)
    needs = sum(hill[1][(ant + past) % len(hill[1])] for past in range(many))
    row = plain_row(hill, ant, many, range(-around - 3, 2 * around + 3))
    return around, needs, plain_flats(around, needs, row)


def check_form(case, told):
    """A house is a tuple with a rising list of triples; its flats are parted and lie as they're to lie."""
    around, needs, flats = told
    case.assertEqual((type(told), type(flats), {type(flat) for flat in flats} - {tuple}), (tuple, list, set()))
    case.assertEqual(flats, sorted(set(flats)))
    for low, high, to in flats:
        case.assertTrue(0 <= low < around and low <= high < low + around and to >= high + needs)
        case.assertTrue(low < high or to > low + needs)
    for one, other in zip(flats, flats[1:]):
        case.assertTrue(one[1] < other[0] and one[2] < other[2], (one, other))
    if flats:
        case.assertLess(flats[-1][1], flats[0][0] + around)
        case.assertTrue(flats[-1][2] < flats[0][2] + around)


class House(unittest.TestCase):
    def test_beside_plain_turns_line_by_line(self):
        several = []
        for hill in hills():
            for ant in range(len(hill[1])):
                for many in (0, 1, 2, 3, 4, 7, 14, 23):
                    told = house(hill, ant, many)
                    check_form(self, told)
                    expected = plain_house(hill, ant, many)
                    several.append(expected)
                    self.assertEqual(plain.kinds(told), plain.kinds(expected), (hill, ant, many))
        flats = [(around, flat) for around, _, found in several for flat in found]
        # Lines by themselves, flats over around, those of a whole year: all of these came.
        self.assertGreater(sum(low == high for _, (low, high, _) in flats), 20)
        self.assertGreater(sum(high >= around for around, (_, high, _) in flats), 20)
        self.assertGreater(sum(high - low + 1 == around > 1 for around, (low, high, _) in flats), 20)

    def test_of_no_turns(self):
        for hill in plain.HILLS + plain.GREAT:
            for ant in range(len(hill[1])):
                self.assertEqual(plain.kinds(house(hill, ant, 0)), plain.kinds((year_drops(hill), 0, [])))

    def test_by_hand(self):
        # At 1, 2 and 3 something is lost: from -4, -3 and -2 it's led to 4, as from -1.
        self.assertEqual(house(HILL, 0, 1), (12, 5, [(8, 11, 16)]))
        self.assertEqual(house(HILL, 1, 1), (12, 3, [(10, 13, 16)]))
        # Ant 1 leads 10 to 13 to 16: 5 to 7 are led there, 8 to 11 go from 16 to 19.
        self.assertEqual(house(HILL, 0, 2), (12, 8, [(5, 7, 16), (8, 11, 19)]))
        # All of a day's lines go to its evening.
        self.assertEqual(house((((10, True),), (3,), 0), 0, 1), (10, 3, [(8, 17, 20)]))
        self.assertEqual(house((((10, True),), (3,), 0), 0, 2), (10, 6, [(8, 17, 30)]))

    def test_a_line_by_itself(self):
        found = 0
        for hill in plain.small_hills()[::3]:
            around, needs, flats = house(hill, 0, 2)
            for low, high, to in flats:
                if low == high:
                    found += 1
                    row = dict(plain_row(hill, 0, 2, (low - 1, low, low + 1)))
                    self.assertTrue(row[low - 1] < row[low] == to < row[low + 1] and to > low + needs)
        self.assertGreater(found, 20)

    def test_flats_that_touch_have_different_ends(self):
        touching = 0
        for hill in hills() + plain.GREAT:
            flats = house(hill, 0, 9)[2]
            touching += sum(one[1] + 1 == other[0] for one, other in zip(flats, flats[1:]))
            self.assertEqual(len({flat[2] for flat in flats}), len(flats))
        self.assertGreater(touching, 20)

    def test_no_flats_where_nothing_is_lost(self):
        self.assertEqual(house(plain.NO_STRETCH, 1, 60)[2], [])
        self.assertEqual(house(plain.ONE_DAY, 0, 60), (1, 60, []))

    def test_great_and_sixty_turns(self):
        chance = random.Random(1)
        for hill in plain.GREAT:
            for ant in range(len(hill[1])):
                told = house(hill, ant, 60)
                check_form(self, told)
                for low, high, to in told[2][::7] + told[2][-1:]:
                    # No line beside the flat is led there, nor is one ahead of the next.
                    self.assertEqual(latest_line(hill, ant, 60, to), high)
                    self.assertEqual(latest_line(hill, ant, 60, to - 1), low - 1)
                for _ in range(5):
                    line = chance.randrange(-FAR, FAR)
                    at = line
                    for past in range(60):
                        at = led(hill, (ant + past) % len(hill[1]), at)
                    self.assertEqual(led_by(told, line), at)


class LedBy(unittest.TestCase):
    def test_beside_plain_turns_line_by_line(self):
        for hill in hills():
            around = plain.plain_year(hill)
            for ant in range(len(hill[1])):
                for many in (0, 1, 3, 10):
                    told = house(hill, ant, many)
                    for line, to in plain_row(hill, ant, many, range(-around - 2, 2 * around + 2)):
                        self.assertEqual(plain.kinds(led_by(told, line)), plain.kinds(to), (hill, ant, many, line))

    def test_far_lines(self):
        for hill in hills()[::3] + plain.GREAT:
            told = house(hill, 0, 13)
            around = year_drops(hill)
            for line in (0, 1, around - 1, around // 2):
                for years in (FAR, -FAR, 1, -1):
                    self.assertEqual(led_by(told, line + years * around), led_by(told, line) + years * around)

    def test_beside_behind(self):
        for hill in plain.GREAT:
            for state in plain.some_states(hill):
                told = led_by(house(hill, state[1], 50), line_of(hill, state))
                self.assertEqual(told, line_of(hill, behind(hill, state, 50)))

    def test_by_hand(self):
        told = house(HILL, 0, 2)
        self.assertEqual([led_by(told, line) for line in range(4, 14)], [12, 16, 16, 16, 19, 19, 19, 19, 20, 21])
        self.assertEqual([led_by(told, line) for line in (-8, -7, -5, -4, -1, 0)], [0, 4, 4, 7, 7, 8])


class Joined(unittest.TestCase):
    def test_parted_anyhow_and_put_together(self):
        for hill in hills():
            ants = len(hill[1])
            for ant in range(ants):
                for one, other in ((0, 0), (0, 3), (3, 0), (1, 1), (2, 5), (8, 3)):
                    told = joined(house(hill, ant, one), house(hill, (ant + one) % ants, other))
                    check_form(self, told)
                    expected = plain_house(hill, ant, one + other)
                    self.assertEqual(plain.kinds(told), plain.kinds(expected), (hill, ant, one, other))

    def test_put_together_anyhow(self):
        for hill in hills()[::2] + plain.GREAT:
            ants = len(hill[1])
            parts = [house(hill, ant, many) for ant, many in ((0, 2), (2 % ants, 5), (7 % ants, 4))]
            whole = house(hill, 0, 11)
            self.assertEqual(joined(joined(parts[0], parts[1]), parts[2]), whole)
            self.assertEqual(joined(parts[0], joined(parts[1], parts[2])), whole)

    def test_again_and_again(self):
        for hill in hills()[::2]:
            told = house(hill, 0, len(hill[1]))
            rounds = 1
            for _ in range(40):
                told, rounds = joined(told, told), rounds * 2
            check_form(self, told)
            self.assertEqual(told[1], rounds * sum(hill[1]))
            for state in plain.some_states(hill):
                if state[1] == 0:
                    at = line_of(hill, behind(hill, state, rounds * len(hill[1])))
                    self.assertEqual(led_by(told, line_of(hill, state)), at, hill)

    def test_of_other_hills_with_the_same_around(self):
        hills_of_twelve = [
            HILL, OTHER, (((4, True), (4, True), (4, False)), (7,), 1), (((5, False), (7, True)), (2, 2, 9), 3),
            (((1, True), (11, True)), (4,), 6), (((6, True), (6, True)), (1, 5), 0), (((4, True), (8, True)), (5, 2), 9),
        ]
        for one in hills_of_twelve:
            for other in hills_of_twelve:
                for many, other_many in ((1, 1), (2, 3), (5, 1), (0, 2)):
                    told = joined(house(one, 0, many), house(other, 0, other_many))
                    check_form(self, told)
                    row = plain_row(one, 0, many, range(-20, 40))
                    ends = dict(plain_row(other, 0, other_many, range(-20, 200)))
                    expected = plain_flats(12, told[1], [(line, ends[to]) for line, to in row])
                    self.assertEqual(told[2], expected, (one, other, many, other_many))

    def test_unlike(self):
        houses = [house(hill, 0, many) for hill in plain.HILLS + (HILL,) for many in (0, 2)]
        refused = 0
        for one in houses:
            for other in houses:
                if one[0] != other[0]:
                    refused += 1
                    with self.assertRaises(Unlike):
                        joined(one, other)
                else:
                    self.assertEqual(joined(one, other)[1], one[1] + other[1])
        self.assertGreater(refused, 100)


class HandedIn(unittest.TestCase):
    def test_asking(self):
        plain.check_asking(self, house, ("hill", "ant", "many"), (HILL, 1, 2), OTHER)
        around, needs, flats = house(HILL, 0, 2)
        one, other = (around, needs, tuple(flats)), (12, 1, ((0, 3, 9),))
        plain.check_asking(self, led_by, ("house", "line"), (one, 6), other)
        plain.check_asking(self, joined, ("one", "other"), (one, other), (12, 0, ()))

    def test_told_flats_are_the_askers_own(self):
        bare, told = house(HILL, 0, 0), house(HILL, 0, 2)
        expected = plain.kinds(told)
        for both in (joined(bare, told), joined(told, bare), joined(told, joined(bare, bare))):
            self.assertEqual(plain.kinds(both), expected)
            both[2].append("spoilt")
            self.assertEqual((plain.kinds(told), bare[2]), (expected, []))
        house(HILL, 0, 0)[2].append("spoilt")
        self.assertEqual(house(HILL, 0, 0)[2], [])

    def test_told_is_handed_in_again(self):
        for hill in plain.GREAT:
            told = house(hill, 0, len(hill[1]))
            for _ in range(4):
                told = joined(told, told)
            line = led_by(told, led_by(told, FAR))
            self.assertEqual(led_by(joined(told, told), FAR), line)


if __name__ == "__main__":
    unittest.main()
