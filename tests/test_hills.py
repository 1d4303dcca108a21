import unittest

from honeyturns.hills import day_of, given_by, is_hill, open_from, ring_needs, year_drops

import plain

HILL = (((3, True), (0, False), (2, True)), (4, 1), 2)
FAR = 10 ** 40


class IsHill(unittest.TestCase):
    def right(self, *things):
        for thing in things:
            with self.subTest(thing=thing):
                self.assertIs(is_hill(thing), True)

    def wrong(self, *things):
        for thing in things:
            with self.subTest(thing=thing):
                self.assertIs(is_hill(thing), False)

    def test_hills(self):
        self.right(*plain.HILLS)
        self.right(*plain.small_hills())

    def test_least(self):
        self.right((((1, True),), (1,), 0))
        self.right((((0, True), (1, False)), (1,), 0))
        self.right((((1, False), (0, True)), (1,), 0))

    def test_bounds_are_not_looked_at(self):
        self.right((((10 ** 13, True),), (10 ** 13,), 10 ** 13))
        self.right((((FAR ** 9, True),) * 13, (FAR ** 9,) * 7, FAR ** 9))

    def test_a_part_out(self):
        year, needs, most = HILL
        self.wrong((year, needs), (year, most), (needs, most), (year,), (needs,), (most,), ())
        self.wrong((((3,), (0, False), (2, True)), needs, most))
        self.wrong((((True,), (0, False), (2, True)), needs, most))
        self.wrong((((3, True), (), (2, True)), needs, most))

    def test_one_too_many(self):
        year, needs, most = HILL
        self.wrong(HILL + (0,), HILL + (most,), HILL + (None,), HILL + ((),), HILL + HILL)
        self.wrong((((3, True, 0), (0, False), (2, True)), needs, most))
        self.wrong((((3, True), (0, False), (2, True, True)), needs, most))

    def test_parts_exchanged(self):
        year, needs, most = HILL
        self.wrong((needs, year, most), (year, most, needs), (most, needs, year))
        self.wrong((needs, most, year), (most, year, needs))
        self.wrong((((True, 3), (0, False), (2, True)), needs, most))
        self.wrong((((3, True), (0, False), (True, 2)), needs, most))
        self.wrong((year, year, most), (needs, needs, most))

    def test_a_list_for_a_tuple(self):
        for thing in plain.with_lists(HILL):
            with self.subTest(thing=thing):
                self.assertIs(is_hill(thing), plain.kinds(thing) == plain.kinds(HILL))

    def test_a_truth_for_a_number(self):
        year, needs, most = HILL
        for truth in (True, False):
            self.wrong((((truth, True), (0, False), (2, True)), needs, most))
            self.wrong((((3, True), (truth, False), (2, True)), needs, most))
            self.wrong((((3, True), (0, False), (truth, True)), needs, most))
            self.wrong((year, (truth, 1), most), (year, (4, truth), most), (year, (truth,), most))
            self.wrong((year, needs, truth))

    def test_a_number_for_a_truth(self):
        year, needs, most = HILL
        for number in (0, 1, 2, -1):
            self.wrong((((3, number), (0, False), (2, True)), needs, most))
            self.wrong((((3, True), (0, number), (2, True)), needs, most))
            self.wrong((((3, True), (0, False), (2, number)), needs, most))
            self.wrong((((3, number),), needs, most))

    def test_below_nought(self):
        year, needs, most = HILL
        for number in (-1, -FAR):
            self.wrong((((number, True), (0, False), (2, True)), needs, most))
            self.wrong((((3, True), (0, False), (number, True)), needs, most))
            self.wrong((year, (number, 1), most), (year, (4, number), most), (year, needs, number))

    def test_a_need_of_nought(self):
        year, needs, most = HILL
        self.wrong((year, (0,), most), (year, (0, 1), most), (year, (4, 0), most))

    def test_no_day_no_ant(self):
        year, needs, most = HILL
        self.wrong(((), needs, most), (year, (), most), ((), (), most))

    def test_no_drop_in_all(self):
        self.wrong((((0, True),), (4, 1), 2), (((0, True), (0, False), (0, True)), (4, 1), 2))

    def test_no_open_day(self):
        self.wrong((((3, False),), (4, 1), 2), (((3, False), (0, False), (2, False)), (4, 1), 2))

    def test_things_of_other_kinds(self):
        year, needs, most = HILL
        self.wrong(None, True, False, 0, 1, -1, FAR, "", "abc", (), [], ((),), [[]], ((), (), ()))
        self.wrong("pot", ("a", "b", "c"), (None, None, None), (1, 2, 3), (True, True, True))
        for other in (None, "", "3", "abc", (), (3,), [], [3], ((3, True),)):
            self.wrong((((other, True), (2, True)), needs, most), (((3, other), (2, True)), needs, most))
            self.wrong(((other, (2, True)), needs, most), ((other,), needs, most))
            self.wrong((year, (other,), most), (year, (4, other), most), (year, needs, other))
        for other in (None, "", "3", "abc", 0, 3, True, False, ("a",), (None,), ((),)):
            self.wrong((other, needs, most), (year, other, most))

    def test_eight_deep(self):
        deep = 1
        for _ in range(8):
            deep = (deep,)
        self.wrong(deep, (deep, HILL[1], HILL[2]), (HILL[0], deep, HILL[2]), (HILL[0], HILL[1], deep))

    def test_by_name(self):
        self.assertIs(is_hill(thing=HILL), True)
        self.assertIs(is_hill(thing=[]), False)


class Sums(unittest.TestCase):
    def test_year_drops(self):
        self.assertEqual(plain.kinds([year_drops(hill) for hill in plain.HILLS]), "[1, 5, 6, 45, 1, 7, 5]")
        for hill in plain.small_hills():
            with self.subTest(hill=hill):
                self.assertEqual(year_drops(hill), plain.plain_given_by(hill, len(hill[0]) - 1))

    def test_ring_needs(self):
        self.assertEqual(plain.kinds([ring_needs(hill) for hill in plain.HILLS]), "[1, 5, 12, 110, 6, 6, 3]")

    def test_great(self):
        great = ((((10 ** 12, True),) * 12), (10 ** 12,) * 6, 10 ** 12)
        self.assertEqual(year_drops(great), 12 * 10 ** 12)
        self.assertEqual(ring_needs(great), 6 * 10 ** 12)


class GivenBy(unittest.TestCase):
    def test_day_by_day(self):
        for hill in plain.HILLS + tuple(plain.small_hills()):
            for day in range(4 * len(hill[0]) + 1):
                with self.subTest(hill=hill, day=day):
                    self.assertEqual(plain.kinds(given_by(hill, day)), plain.kinds(plain.plain_given_by(hill, day)))

    def test_that_day_too(self):
        self.assertEqual([given_by(HILL, day) for day in range(7)], [3, 3, 5, 8, 8, 10, 13])

    def test_far(self):
        for hill in plain.HILLS:
            days, drops = len(hill[0]), year_drops(hill)
            for years in (10 ** 12, FAR // days - 1, FAR):
                for day in range(2 * days):
                    with self.subTest(hill=hill, years=years, day=day):
                        far = given_by(hill, years * days + day)
                        self.assertEqual(far, years * drops + plain.plain_given_by(hill, day))


class OpenFrom(unittest.TestCase):
    def test_day_by_day(self):
        for hill in plain.HILLS + tuple(plain.small_hills()):
            for day in range(4 * len(hill[0]) + 1):
                with self.subTest(hill=hill, day=day):
                    self.assertEqual(plain.kinds(open_from(hill, day)), plain.kinds(plain.plain_open_from(hill, day)))

    def test_that_day_too_and_over_the_year(self):
        late = (((1, False), (1, True), (1, False)), (1,), 0)
        self.assertEqual([open_from(late, day) for day in range(6)], [1, 1, 4, 4, 4, 7])

    def test_far(self):
        for hill in plain.HILLS:
            days = len(hill[0])
            for years in (10 ** 12, FAR // days - 1, FAR):
                for day in range(2 * days):
                    with self.subTest(hill=hill, years=years, day=day):
                        far = open_from(hill, years * days + day)
                        self.assertEqual(far, years * days + plain.plain_open_from(hill, day))


class DayOf(unittest.TestCase):
    def test_day_by_day(self):
        for hill in plain.HILLS + tuple(plain.small_hills()):
            for drops in range(1, 4 * year_drops(hill) + 2):
                with self.subTest(hill=hill, drops=drops):
                    self.assertEqual(plain.kinds(day_of(hill, drops)), plain.kinds(plain.plain_day_of(hill, drops)))

    def test_just_given_and_one_more(self):
        # 3 drops on day 0, open; none on day 1, shut; 2 on day 2, open.
        self.assertEqual([day_of(HILL, drops) for drops in (1, 3, 4, 5, 6, 8, 9, 10, 11)], [0, 0, 2, 2, 3, 3, 5, 5, 6])

    def test_given_on_a_shut_day(self):
        # All drops come on shut days; the open ones behind them bring none.
        hill = (((0, True), (5, False), (0, True), (0, False)), (1,), 0)
        self.assertEqual([day_of(hill, drops) for drops in (1, 5, 6, 10, 11)], [2, 2, 6, 6, 10])

    def test_given_behind_the_last_open_day(self):
        hill = (((0, True), (2, False)), (1,), 0)
        self.assertEqual([day_of(hill, drops) for drops in (1, 2, 3, 4, 5)], [2, 2, 4, 4, 6])

    def test_far(self):
        for hill in plain.HILLS:
            days, drops = len(hill[0]), year_drops(hill)
            for years in (10 ** 12, FAR // drops - 1, FAR):
                for many in range(1, drops + 2):
                    with self.subTest(hill=hill, years=years, drops=many):
                        far = day_of(hill, years * drops + many)
                        self.assertEqual(far, years * days + plain.plain_day_of(hill, many))

    def test_turns_given_by_back(self):
        for hill in plain.HILLS:
            for far in (0, 10 ** 20, FAR):
                for day in range(len(hill[0])):
                    open_day = open_from(hill, far + day)
                    given = given_by(hill, open_day)
                    with self.subTest(hill=hill, day=open_day):
                        self.assertLessEqual(day_of(hill, given) if given else 0, open_day)
                        self.assertGreater(day_of(hill, given + 1), open_day)


class HandedIn(unittest.TestCase):
    def test_lists_for_tuples(self):
        for hill in plain.with_lists(HILL):
            with self.subTest(hill=hill):
                self.assertEqual((year_drops(hill), ring_needs(hill)), (5, 5))
                self.assertEqual((given_by(hill, 4), open_from(hill, 4), day_of(hill, 9)), (8, 5, 5))

    def test_by_name(self):
        self.assertEqual(year_drops(hill=HILL), 5)
        self.assertEqual(ring_needs(hill=HILL), 5)
        self.assertEqual(given_by(day=4, hill=HILL), 8)
        self.assertEqual(open_from(day=4, hill=HILL), 5)
        self.assertEqual(day_of(drops=9, hill=HILL), 5)

    def test_stays_as_it_was(self):
        hill = plain.all_lists(HILL)
        asked = [
            (is_hill, (hill,)), (year_drops, (hill,)), (ring_needs, (hill,)),
            (given_by, (hill, FAR)), (open_from, (hill, FAR)), (day_of, (hill, FAR)),
        ]
        for ask, handed in asked:
            with self.subTest(ask=ask):
                told = ask(*handed)
                self.assertEqual(plain.kinds(hill), plain.kinds(plain.all_lists(HILL)))
                self.assertEqual(plain.kinds(ask(*handed)), plain.kinds(told))

    def test_is_not_kept(self):
        hill = plain.all_lists(HILL)
        self.assertEqual((year_drops(hill), given_by(hill, 2), day_of(hill, 4)), (5, 5, 2))
        hill[0][0][0] = 10
        hill[1].append(3)
        self.assertEqual((year_drops(hill), ring_needs(hill)), (12, 8))
        self.assertEqual((given_by(hill, 2), day_of(hill, 4)), (12, 0))


if __name__ == "__main__":
    unittest.main()
