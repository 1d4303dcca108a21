import random
import time
import unittest

from honeyturns.windows import first_in, last_below

import plain

FAR = 10 ** 38


def great_rings(seed, many):
    """Rings of 10 ** 38 and more, with windows of one number, of a few, of a share of the ring."""
    chance = random.Random(seed)
    rings = []
    for _ in range(many):
        around = chance.randrange(10 ** 37, 10 ** 39)
        step = chance.choice((1, 1, 1, 6, 10 ** 12)) * chance.randrange(10 ** chance.randrange(1, 40))
        if chance.random() < 0.3:
            common = chance.choice((2, 7, 10 ** 6, 10 ** 20))
            around, step = around // common * common, step // common * common
        begin = chance.randrange(-10 ** 40, 10 ** 40)
        wide = chance.choice((0, 1, 10, 10 ** 18, around // 10 ** 6, around // 3))
        low = chance.randrange(around - wide)
        rings.append((begin, chance.choice((step, -step)), around, low, low + wide))
    return rings


def golden(least):
    one, other = 1, 1
    while one < least:
        one, other = other, one + other
    return one, other


class FirstIn(unittest.TestCase):
    def test_beside_step_by_step(self):
        for around in range(1, 12):
            for step in range(-around - 2, 2 * around + 2):
                for begin in (-around - 2, -1, 0, 1, around // 2, around, around + 3):
                    way = [(begin + many * step) % around for many in range(around)]
                    for low in range(around):
                        for high in range(low, around):
                            hits = [many for many in range(around) if low <= way[many] <= high]
                            expected = hits[0] if hits else None
                            told = first_in(begin, step, around, low, high)
                            self.assertEqual(
                                plain.kinds(told), plain.kinds(expected), (begin, step, around, low, high))

    def test_beside_step_by_step_of_greater_rings(self):
        chance = random.Random(7)
        for _ in range(3000):
            around = chance.randrange(1, 400)
            begin, step = chance.randrange(-900, 900), chance.randrange(-900, 900)
            low = chance.randrange(around)
            high = min(around - 1, low + chance.choice((0, 0, 1, 5, 50)))
            hits = [many for many in range(around) if plain.inside(begin, step, around, low, high, many)]
            told = first_in(begin, step, around, low, high)
            self.assertEqual(told, min(hits, default=None), (begin, step, around, low, high))

    def test_by_hand(self):
        # 1, 8, 5, 2, 9, 6, 3, 0, 7, 4 come round.
        self.assertEqual([first_in(1, 7, 10, low, low) for low in range(10)], [7, 0, 3, 6, 9, 2, 5, 8, 1, 4])
        self.assertEqual(first_in(1, 7, 10, 3, 5), 2)
        self.assertEqual(first_in(1, -3, 10, 3, 5), 2)
        self.assertEqual(first_in(-9, 17, 10, 3, 5), 2)

    def test_begin_itself_counts(self):
        for step in (0, 1, -1, 7, FAR, -FAR):
            self.assertEqual(first_in(5, step, 10, 5, 5), 0)
            self.assertEqual(first_in(-FAR - 5, step, 10, 4, 6), 0)

    def test_a_step_of_nought(self):
        for step in (0, 10, -10, 10 * FAR, -10 * FAR):
            self.assertEqual(first_in(3, step, 10, 2, 3), 0)
            self.assertIsNone(first_in(3, step, 10, 4, 9))
            self.assertIsNone(first_in(3, step, 10, 0, 2))
            self.assertIsNone(last_below(3, step, 10, 0, 2, FAR))
            self.assertEqual(last_below(3, step, 10, 3, 3, FAR), FAR - 1)

    def test_around_one_and_all_numbers(self):
        for step in (0, 1, -3, FAR):
            self.assertEqual(first_in(-7, step, 1, 0, 0), 0)
            self.assertEqual(first_in(FAR, step, 12, 0, 11), 0)
            self.assertEqual(last_below(-7, step, 1, 0, 0, FAR), FAR - 1)
            self.assertEqual(last_below(FAR, step, 12, 0, 11, 3), 2)

    def test_none_just_where_none_leads_there(self):
        # Steps of 6 around 15 lead to the numbers that are alike by 3.
        for begin in range(15):
            for number in range(15):
                told = first_in(begin, 6, 15, number, number)
                self.assertEqual(told is None, (begin - number) % 3 != 0)
            self.assertIsNone(first_in(3 * FAR, 6 * FAR, 15 * FAR, 3 * FAR + 1, 6 * FAR - 1))
            self.assertEqual(first_in(3 * FAR, 6 * FAR, 15 * FAR, 3 * FAR + 1, 6 * FAR), 3)

    def test_great_rings(self):
        found = 0
        for ring in great_rings(1, 1500):
            told = first_in(*ring)
            if told is None:
                self.assertEqual(plain.how_many(*ring, ring[2]), 0, ring)
            else:
                found += 1
                self.assertTrue(plain.inside(*ring, told), ring)
                self.assertEqual(plain.how_many(*ring, told), 0, ring)
        self.assertTrue(500 < found < 1500)

    def test_how_many_counts(self):
        for around in range(1, 8):
            for step in range(-9, 10):
                for begin in range(-8, 9):
                    ring = (begin, step, around, around // 3, around // 2)
                    for many in range(10):
                        hits = sum(plain.inside(*ring, past) for past in range(many))
                        self.assertEqual(plain.how_many(*ring, many), hits, ring)

    def test_great_rings_by_parts_of_the_window(self):
        for ring in great_rings(2, 300):
            begin, step, around, low, high = ring
            middle = (low + high) // 2
            parts = [(low, middle)] + ([(middle + 1, high)] if middle < high else [])
            told = [first_in(begin, step, around, *part) for part in parts]
            known = [many for many in told if many is not None]
            self.assertEqual(first_in(*ring), min(known, default=None), ring)

    def test_one_number_by_what_divides(self):
        around = 10 ** 39 + 7
        for step in (3, 10 ** 38 + 9, -(10 ** 20) - 1):
            for number in (0, 1, 10 ** 30, around - 1):
                many = (number - 11) * pow(step, -1, around) % around
                self.assertEqual(first_in(11, step, around, number, number), many)


class LastBelow(unittest.TestCase):
    def test_beside_step_by_step(self):
        for around in range(1, 9):
            for step in range(-around - 2, 2 * around + 2):
                for begin in (-around - 2, 0, 1, around):
                    way = [(begin + many * step) % around for many in range(2 * around + 2)]
                    for low in range(around):
                        for high in range(low, around):
                            expected = None
                            for many in range(2 * around + 2):
                                told = last_below(begin, step, around, low, high, many)
                                self.assertEqual(
                                    plain.kinds(told), plain.kinds(expected), (begin, step, around, low, high, many))
                                if low <= way[many] <= high:
                                    expected = many

    def test_by_hand(self):
        # 1, 8, 5, 2, 9, 6, 3, 0, 7, 4 come round.
        self.assertEqual([last_below(1, 7, 10, 5, 6, many) for many in range(7)], [None] * 3 + [2] * 3 + [5])
        self.assertEqual(last_below(1, 7, 10, 5, 6, 10 ** 39), 10 ** 39 - 5)

    def test_below_many(self):
        for step in (0, 1, 7):
            self.assertIsNone(last_below(5, step, 10, 5, 5, 0))
            self.assertEqual(last_below(5, step, 10, 5, 5, 1), 0)
        self.assertIsNone(last_below(5, 1, 10, 6, 6, 1))
        self.assertEqual(last_below(5, 1, 10, 6, 6, 2), 1)
        self.assertEqual(last_below(5, 1, 10, 6, 6, 11), 1)
        self.assertEqual(last_below(5, 1, 10, 6, 6, 12), 11)

    def test_great_rings(self):
        chance = random.Random(3)
        found = 0
        for ring in great_rings(3, 1500):
            many = chance.choice((1, 10, 10 ** 20, 10 ** 38, 10 ** 40))
            told = last_below(*ring, many)
            if told is None:
                self.assertEqual(plain.how_many(*ring, many), 0, ring)
            else:
                found += 1
                self.assertTrue(0 <= told < many and plain.inside(*ring, told), ring)
                self.assertEqual(plain.how_many(*ring, many), plain.how_many(*ring, told + 1), ring)
        self.assertTrue(200 < found < 1500)

    def test_the_way_back_of_first_in(self):
        for begin, step, around, low, high in great_rings(4, 300):
            for many in (1, 10 ** 20, around):
                back = first_in(begin + (many - 1) * step, -step, around, low, high)
                expected = None if back is None or back >= many else many - 1 - back
                self.assertEqual(last_below(begin, step, around, low, high, many), expected)
            first = first_in(begin, step, around, low, high)
            if first is not None:
                self.assertIsNone(last_below(begin, step, around, low, high, first))
                self.assertEqual(last_below(begin, step, around, low, high, first + 1), first)


class Asking(unittest.TestCase):
    def test_by_name(self):
        self.assertEqual(first_in(high=5, low=3, around=10, step=7, begin=1), 2)
        self.assertEqual(last_below(many=10, high=5, low=3, around=10, step=7, begin=1), 9)

    def test_speed(self):
        one, other = golden(10 ** 38)
        rings = [(0, one, other), (0, other, other + one), (5, FAR - 1, FAR), (5, 1, FAR), (5, -1, FAR), (1, 2, FAR)]
        rings += [(3, FAR - 2, FAR), (0, 10 ** 19, FAR + 1), (-FAR, FAR // 2 + 1, FAR), (7, FAR // 2 - 1, FAR)]
        begun = time.perf_counter()
        for begin, step, around in rings:
            for low, high in ((0, 0), (around - 1, around - 1), (around // 3, around // 3), (around // 3, around // 2)):
                told = first_in(begin, step, around, low, high)
                self.assertEqual(plain.how_many(begin, step, around, low, high, around if told is None else told), 0)
                last = last_below(begin, step, around, low, high, 10 ** 39)
                behind = 0 if last is None else last + 1
                counted = plain.how_many(begin, step, around, low, high, behind)
                self.assertEqual(plain.how_many(begin, step, around, low, high, 10 ** 39), counted)
        self.assertLess(time.perf_counter() - begun, 2)

    def test_as_great_as_they_come(self):
        # What was told may be handed in again, whatever its size.
        one, other = golden(10 ** 600)
        told = first_in(1, one, other, 0, 0)
        self.assertEqual((1 + told * one) % other, 0)
        self.assertEqual(last_below(1, one, other, 0, 0, told + 1), told)


if __name__ == "__main__":
    unittest.main()
