import random
import unittest

from honeyturns.errors import Unlike
from honeyturns.far import behind
from honeyturns.hills import open_from, ring_needs, year_drops
from honeyturns.lines import line_of
from honeyturns.losses import losses
from honeyturns.pairs import gaps, meeting, rounds_behind
from honeyturns.sparing import spares
from honeyturns.turns import turns

import plain

HILL = (((12, True), (0, False)), (5, 3), 8)
OTHER = (((12, True), (0, False)), (5, 4), 7)
FAR = 10 ** 40


def hills():
    return plain.HILLS + tuple(plain.small_hills()[::11]) + (HILL, OTHER)


def some_pairs(hill, many, chance):
    """Pairs of STATEs with the same ant next, some days apart either way."""
    pairs = []
    for _ in range(many):
        days = [plain.plain_open_from(hill, chance.randrange(0, 3 * len(hill[0]))) for _ in range(2)]
        ant = chance.randrange(len(hill[1]))
        pots = [chance.randrange(hill[2] + 1) for _ in range(2)]
        pairs.append(((days[0], ant, pots[0]), (days[1], ant, pots[1])))
    return pairs


def plain_lines(hill, state, many):
    """The lines of a STATE and behind each of so many turns."""
    states = [state] + [at for at, _ in plain.plain_turns(hill, state, many)]
    return [plain.plain_line(hill, at) for at in states]


def turns_till_round(hill, one, other):
    """So many turns till both lines have come round."""
    rows = [plain.plain_way(hill, state)[0] for state in (one, other)]
    return max(len(row) for row in rows)


class Gaps(unittest.TestCase):
    def test_beside_plain_turns_of_both(self):
        chance = random.Random(1)
        below = 0
        for hill in hills():
            for one, other in some_pairs(hill, 4, chance):
                for many in (0, 1, 7, 25):
                    lines, other_lines = plain_lines(hill, one, many), plain_lines(hill, other, many)
                    expected = [second - first for first, second in zip(lines, other_lines)]
                    below += min(expected) < 0
                    told = gaps(hill, one, other, many)
                    self.assertEqual(plain.kinds(told), plain.kinds(expected), (hill, one, other))
        self.assertGreater(below, 50)

    def test_by_hand(self):
        # From 12 to 17, 20 and 25, led to 28, from 8 to 13, led to 16, then 19 and 24.
        self.assertEqual(gaps(HILL, (0, 0, 0), (0, 0, 4), 3), [-4, -1, -1, -4])
        self.assertEqual(gaps(HILL, (0, 0, 4), (0, 0, 0), 3), [4, 1, 1, 4])

    def test_one_more_than_turns(self):
        for many in (0, 1, 2, 400):
            self.assertEqual(len(gaps(HILL, (0, 0, 0), (FAR * 2, 0, 0), many)), many + 1)

    def test_who_is_behind_stays_so(self):
        chance = random.Random(2)
        for hill in hills() + plain.GREAT:
            for one, other in some_pairs(hill, 2, chance):
                told = gaps(hill, one, other, 40)
                if told[0] >= 0:
                    self.assertGreaterEqual(min(told), 0)
                if told[0] <= 0:
                    self.assertLessEqual(max(told), 0)
                if told[0] == 0:
                    self.assertEqual(told, [0] * 41)

    def test_great_and_far_apart(self):
        chance = random.Random(3)
        for hill in plain.GREAT:
            for one, other in some_pairs(hill, 2, chance):
                near = gaps(hill, one, other, 400)
                lines = [line_of(hill, at) for at in [one] + [row[0] for row in turns(hill, one, 400)]]
                others = [line_of(hill, at) for at in [other] + [row[0] for row in turns(hill, other, 400)]]
                self.assertEqual(near, [second - first for first, second in zip(lines, others)])
                far = (other[0] + FAR * len(hill[0]),) + other[1:]
                drops = FAR * year_drops(hill)
                self.assertEqual(gaps(hill, one, far, 400), [gap + drops for gap in near])
                self.assertEqual(gaps(hill, far, one, 400), [-gap - drops for gap in near])


class Meeting(unittest.TestCase):
    def test_beside_plain_turns_of_both(self):
        chance = random.Random(4)
        found = []
        for hill in plain.HILLS + tuple(plain.small_hills()[::5]) + (HILL, OTHER):
            for one, other in some_pairs(hill, 8, chance):
                many = turns_till_round(hill, one, other)
                both = list(zip(plain_lines(hill, one, many), plain_lines(hill, other, many)))
                met = [at for at, (first, second) in enumerate(both) if first == second]
                expected = met[0] if met else None
                found.append(expected)
                self.assertEqual(plain.kinds(meeting(hill, one, other)), plain.kinds(expected), (hill, one, other))
                self.assertEqual(meeting(hill, other, one), expected)
        self.assertGreater(found.count(None), 50)
        self.assertGreater(found.count(0), 20)
        self.assertGreater(sum(turn not in (None, 0) for turn in found), 50)
        self.assertGreater(max(turn for turn in found if turn is not None), 3)

    def test_more_turns_than_drops_ahead_of_it(self):
        # The great pot alone is enough for many turns: lines are far below 0.
        late = 0
        for most in range(40, 60):
            for needs in ((1, 2), (2,), (2, 4, 2), (1,)):
                hill = (((2, True), (60, True)), needs, most)
                for pot, other_pot in ((most, most - 1), (most - 4, most), (most // 2, most - 1)):
                    one, other = (0, 0, pot), (0, 0, other_pot)
                    lines, other_lines = plain_lines(hill, one, 200), plain_lines(hill, other, 200)
                    met = [at for at in range(201) if lines[at] == other_lines[at]]
                    late += bool(met) and met[0] > max(lines[met[0] - 1], 0)
                    self.assertEqual(meeting(hill, one, other), met[0] if met else None, (hill, one, other))
        self.assertGreater(late, 20)
        # They're one only behind more turns than their line is then.
        for hill, one, other, many in (
            ((((0, True), (6, True), (0, True)), (2, 1), 4), (0, 0, 4), (0, 0, 3), 3),
            ((((0, True), (12, True)), (2,), 10), (0, 0, 8), (0, 0, 9), 5),
            ((((0, True), (12, False)), (3, 1, 5), 10), (0, 0, 7), (0, 0, 8), 3),
        ):
            both = zip(plain_lines(hill, one, many), plain_lines(hill, other, many))
            self.assertEqual([line == other_line for line, other_line in both], [False] * many + [True])
            self.assertEqual((meeting(hill, one, other), meeting(hill, other, one)), (many, many))

    def test_of_one_line(self):
        for hill in (plain.GREAT_POT, plain.DRY_OPEN_DAYS, (((0, True), (3, True)), (2, 1), 9)):
            states = plain.states_of(hill, 3 * len(hill[0]))
            met = 0
            for one in states:
                for other in states[::3]:
                    if one[1] == other[1]:
                        same = plain.plain_line(hill, one) == plain.plain_line(hill, other)
                        met += same and one != other
                        self.assertEqual(meeting(hill, one, other) == 0, same, (hill, one, other))
            self.assertGreater(met, 5)

    def test_by_hand(self):
        # 12 goes to 17, 20 and 25, led to 28; 11 to 16, 19 and 24.
        self.assertEqual(gaps(HILL, (0, 0, 0), (0, 0, 1), 3), [-1, -1, -1, -4])
        # 9 goes to 14, led to 16, as 11 does.
        self.assertEqual(meeting(HILL, (0, 0, 1), (0, 0, 3)), 1)
        self.assertEqual(meeting(HILL, (0, 0, 3), (0, 0, 3)), 0)

    def test_none_ever(self):
        spared = (((12, True),), (5, 3), 10)
        self.assertIsNone(meeting(spared, (0, 0, 0), (0, 0, 1)))
        self.assertIsNone(meeting(spared, (0, 0, 0), (12, 0, 0)))
        for hill in plain.HILLS + plain.GREAT:
            day = open_from(hill, 0)
            # More apart than a year, so they never come so near as to be one.
            self.assertIsNone(meeting(hill, (day, 0, 0), (day + FAR * len(hill[0]), 0, 0)))

    def test_far_off(self):
        far = 0
        for hill in plain.GREAT_SPILLING + plain.GREAT_SPARING:
            states = [(day, 0, pot) for day in (0, 1, 3) if plain.is_open(hill, day)
                      for pot in (0, 1, 2, 10, hill[2] // 2, hill[2] - 1, hill[2])]
            for one, other in zip(states, states[1:]):
                told = meeting(hill, one, other)
                if told is None:
                    # Both have come round: they're so far apart, or farther, for ever.
                    for many in (10 ** 30, FAR, FAR + 1):
                        both = [line_of(hill, behind(hill, state, many)) for state in (one, other)]
                        self.assertNotEqual(both[0], both[1])
                    continue
                far += told > 10 ** 12
                for many in (told, told + 1, FAR):
                    both = [line_of(hill, behind(hill, state, many)) for state in (one, other)]
                    self.assertEqual(both[0], both[1], (hill, one, other))
                if told:
                    both = [line_of(hill, behind(hill, state, told - 1)) for state in (one, other)]
                    self.assertNotEqual(both[0], both[1], (hill, one, other))
        self.assertGreater(far, 3)

    def test_a_year_on(self):
        for hill in hills()[::3] + plain.GREAT[:3]:
            one, other = plain.some_states(hill)[:2] if len(hill[1]) == 1 else ((open_from(hill, 0), 0, 0),) * 2
            days = FAR * len(hill[0])
            far = [(state[0] + days,) + state[1:] for state in (one, other)]
            self.assertEqual(meeting(hill, *far), meeting(hill, one, other))

    def test_where_a_gap_closes(self):
        for hill in plain.GREAT_SPILLING:
            one, other = (0, 0, 0), (0, 0, 1)
            told = meeting(hill, one, other)
            if told:
                # In that turn one of both loses something.
                lost = [loss[0] for state in (one, other) for loss in losses(hill, state, 100)]
                self.assertIn(told, lost)


class RoundsBehind(unittest.TestCase):
    def test_beside_plain_turns(self):
        chance = random.Random(5)
        found = []
        for hill in hills():
            ants = len(hill[1])
            for one, other in some_pairs(hill, 5, chance):
                line = plain.plain_line(hill, other)
                rounds, state = 0, one
                while plain.plain_line(hill, state) < line:
                    rounds, state = rounds + 1, plain.plain_turns(hill, state, ants)[-1][0]
                found.append(rounds)
                told = rounds_behind(hill, one, other)
                self.assertEqual(plain.kinds(told), plain.kinds(rounds), (hill, one, other))
        self.assertTrue(found.count(0) > 50 and found.count(1) > 20 and sum(rounds > 3 for rounds in found) > 20)

    def test_nought_just_where_other_is_not_ahead(self):
        chance = random.Random(6)
        for hill in hills() + plain.GREAT:
            for one, other in some_pairs(hill, 2, chance):
                same_or_behind = line_of(hill, other) <= line_of(hill, one)
                self.assertEqual(rounds_behind(hill, one, other) == 0, same_or_behind)
            self.assertEqual(rounds_behind(hill, one, one), 0)

    def test_by_hand(self):
        # 12 goes to 20 in a round, to 31 in two.
        self.assertEqual([rounds_behind(HILL, (0, 0, 0), (2, 0, pot)) for pot in range(9)], [2] * 4 + [1] * 5)
        self.assertEqual([rounds_behind(HILL, (0, 0, 0), (4, 0, pot)) for pot in (4, 5)], [3, 2])

    def test_never_more_behind_as_many_turns_of_both(self):
        chance = random.Random(7)
        for hill in hills()[::2] + plain.GREAT:
            for one, other in some_pairs(hill, 2, chance):
                told = rounds_behind(hill, one, other)
                for many in (1, 2, 3, 50, 10 ** 13 + 1, FAR):
                    later = rounds_behind(hill, behind(hill, one, many), behind(hill, other, many))
                    self.assertLessEqual(later, told, (hill, one, other, many))

    def test_years_apart(self):
        for hill in plain.HILLS + plain.GREAT:
            ants = len(hill[1])
            for years in (3, 10 ** 12 + 1, FAR):
                one = (open_from(hill, 0), ants - 1, 0)
                other = (open_from(hill, years * len(hill[0]) + 1), ants - 1, hill[2] if years > 3 else 0)
                told = rounds_behind(hill, one, other)
                self.assertEqual(rounds_behind(hill, other, one), 0)
                line = line_of(hill, other)
                self.assertGreaterEqual(line_of(hill, behind(hill, one, told * ants)), line)
                if told:
                    self.assertLess(line_of(hill, behind(hill, one, (told - 1) * ants)), line)

    def test_where_nothing_is_lost_by_whole_rounds(self):
        for hill in plain.GREAT_SPARING[1:]:
            self.assertTrue(spares(hill))
            one, other = (0, 0, 0), (FAR * len(hill[0]), 0, 5)
            gap = line_of(hill, other) - line_of(hill, one)
            self.assertEqual(rounds_behind(hill, one, other), -(-gap // ring_needs(hill)))


class UnlikeAnts(unittest.TestCase):
    def test_refused(self):
        for hill in plain.HILLS + plain.GREAT:
            day = open_from(hill, 0)
            for ant in range(len(hill[1])):
                for other_ant in range(len(hill[1])):
                    one, other = (day, ant, 0), (day, other_ant, 0)
                    if ant != other_ant:
                        with self.assertRaises(Unlike):
                            gaps(hill, one, other, 0)
                        with self.assertRaises(Unlike):
                            gaps(hill, one, other, 3)
                        with self.assertRaises(Unlike):
                            meeting(hill, one, other)
                        with self.assertRaises(Unlike):
                            rounds_behind(hill, one, other)
                    else:
                        self.assertEqual((gaps(hill, one, other, 1), meeting(hill, one, other)), ([0, 0], 0))


class HandedIn(unittest.TestCase):
    def test_asking(self):
        names = ("hill", "one", "other")
        plain.check_asking(self, gaps, names + ("many",), (HILL, (2, 1, 1), (0, 1, 3), 5), OTHER)
        plain.check_asking(self, meeting, names, (OTHER, (0, 0, 8), (0, 0, 5)), HILL)
        plain.check_asking(self, rounds_behind, names, (HILL, (2, 1, 1), (60, 1, 3)), OTHER)

    def test_told_is_handed_in_again(self):
        for hill in plain.GREAT:
            one, other = (0, 0, 0), (FAR * len(hill[0]), 0, 1)
            rounds = rounds_behind(hill, one, other)
            at = behind(hill, one, rounds * len(hill[1]))
            self.assertEqual(rounds_behind(hill, at, other), 0)
            self.assertGreater(rounds_behind(hill, other, (at[0] + rounds * len(hill[0]), 0, 0)), 0)


if __name__ == "__main__":
    unittest.main()
