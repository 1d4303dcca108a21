import itertools
import random
import unittest

from honeyturns.lines import stretches
from honeyturns.papers import paper, shows_paper
from honeyturns.sparing import common, spares

import plain

# A year's 12 in one evening: with a pot of 10 it's lost at 1, with one of 8 at 1, 2, 3; common is 4.
SPARING = (((12, True),), (5, 3), 10)
SPILLING = (((12, True),), (5, 3), 8)
# Two stretches: 4 to 5, and 8 to 14, a number of each class: common is 6.
TWO = (((3, True), (3, True), (0, True), (1, True), (5, False)), (4, 2), 0)
FAR = 10 ** 40


def hills():
    years = (
        ((6, True),),
        ((4, True), (2, True)),
        ((0, True), (5, False), (1, True)),
        ((3, True), (3, True), (6, True)),
    )
    rings = ((2,), (6,), (1, 2), (3, 3), (2, 5, 5), (1, 1, 4))
    return list(itertools.product(years, rings, range(6)))


def met(hill, rows):
    """The classes that the rows meet, each number of a stretch by itself."""
    around, places = plain.plain_common(hill), stretches(hill)
    found = set()
    for ant, place in rows:
        low, high = places[place]
        found.update((number - sum(hill[1][:ant + 1])) % around for number in range(low, high + 1))
    return found


def plain_shows(hill, rows):
    return met(hill, rows) == set(range(plain.plain_common(hill)))


def pairs_of(hill):
    return list(itertools.product(range(len(hill[1])), range(len(stretches(hill)))))


class Paper(unittest.TestCase):
    def test_is_what_the_document_tells(self):
        for hill in hills() + list(plain.HILLS):
            told = paper(hill)
            self.assertIs(told.__class__, tuple)
            if plain.plain_classes(hill, 0):
                self.assertEqual(told[0], "spares")
                self.assertIn(told[1], plain.plain_classes(hill, 0))
            else:
                self.assertEqual(told[0], "spills")
                self.assertIs(told[1].__class__, list)
                self.assertEqual({row.__class__ for row in told[1]}, {tuple})
                self.assertTrue(plain_shows(hill, told[1]), (hill, told))

    def test_there_are_hills_of_each_sort(self):
        words = [paper(hill)[0] for hill in hills()]
        self.assertTrue(min(words.count("spares"), words.count("spills")) > 20)

    def test_is_shown(self):
        for hill in hills() + list(plain.HILLS) + plain.small_hills()[::5]:
            self.assertIs(shows_paper(hill, paper(hill)), True, hill)
            self.assertIs(paper(hill)[0] == "spares", spares(hill), hill)

    def test_great(self):
        for hill in plain.GREAT:
            told = paper(hill)
            self.assertEqual(told[0] == "spares", hill in plain.GREAT_SPARING)
            self.assertIs(shows_paper(hill, told), True)


class ShowsPaper(unittest.TestCase):
    def shown(self, hill, *things):
        for thing in things:
            with self.subTest(hill=hill, thing=thing):
                self.assertIs(shows_paper(hill, thing), True)

    def not_shown(self, hill, *things):
        for thing in things:
            with self.subTest(hill=hill, thing=thing):
                self.assertIs(shows_paper(hill, thing), False)

    def test_each_class(self):
        for hill in hills() + list(plain.HILLS):
            classes = plain.plain_classes(hill, 0)
            for kind in range(-2, plain.plain_common(hill) + 3):
                self.assertIs(shows_paper(hill, ("spares", kind)), kind in classes, (hill, kind))

    def test_rows_of_each_length(self):
        chance = random.Random(2)
        shown = 0
        for hill in hills():
            pairs = pairs_of(hill)
            lots = [list(lot) for many in range(3) for lot in itertools.product(pairs, repeat=many)]
            lots += [chance.sample(pairs, chance.randrange(len(pairs) + 1)) for _ in range(6)]
            for rows in lots:
                told = shows_paper(hill, ("spills", rows))
                shown += told
                self.assertIs(told, plain_shows(hill, rows), (hill, rows))
        self.assertGreater(shown, 100)

    def test_never_one_of_both(self):
        for hill in hills() + list(plain.HILLS) + plain.small_hills()[::11]:
            if spares(hill):
                self.assertIs(shows_paper(hill, ("spills", pairs_of(hill))), False, hill)
            else:
                for kind in range(plain.plain_common(hill)):
                    self.assertIs(shows_paper(hill, ("spares", kind)), False, hill)

    def test_by_hand(self):
        self.shown(SPARING, ("spares", 2), ("spares", 3))
        self.not_shown(SPARING, ("spares", 0), ("spares", 1), ("spares", 4), ("spares", 6), ("spares", -1))
        # Ant 0 meets 0, 1, 2 (1 to 3 less 5), ant 1 meets 1, 2, 3 (less 8).
        self.shown(SPILLING, ("spills", [(0, 0), (1, 0)]), ("spills", [(1, 0), (0, 0)]))
        self.not_shown(SPILLING, ("spills", [(0, 0)]), ("spills", [(1, 0)]), ("spares", 3), ("spares", 0))

    def test_rows_more_than_once_and_more_than_needed(self):
        self.shown(SPILLING, ("spills", [(1, 0), (0, 0), (1, 0), (0, 0), (0, 0)]))
        self.not_shown(SPILLING, ("spills", [(0, 0)] * 9))
        self.assertEqual(stretches(TWO), [(4, 5), (8, 14)])
        self.shown(TWO, ("spills", [(0, 1)]), ("spills", [(1, 0), (0, 1), (0, 0)]), ("spills", [(1, 1)]))
        self.not_shown(TWO, ("spills", [(0, 0)]), ("spills", [(0, 0), (1, 0)]))

    def test_no_rows(self):
        for hill in hills() + list(plain.GREAT):
            self.not_shown(hill, ("spills", []))

    def test_an_ant_or_a_place_that_there_is_not(self):
        whole = [(0, 0), (1, 0)]
        for row in ((2, 0), (0, 1), (-1, 0), (0, -1), (FAR, 0), (0, FAR), (-2, 0), (1, -1)):
            self.not_shown(SPILLING, ("spills", whole + [row]), ("spills", [row] + whole), ("spills", [row]))
        self.not_shown(SPARING, ("spills", [(0, 1)]), ("spills", [(2, 0)]))
        self.not_shown((((12, True),), (5, 2), 11), ("spills", [(0, 0)]))

    def test_another_text(self):
        for word in ("", "spare", "spill", "Spares", "SPILLS", "spares ", " spills", "spares\n", "spills, spares"):
            self.not_shown(SPARING, (word, 2))
            self.not_shown(SPILLING, (word, [(0, 0), (1, 0)]))
        self.not_shown(SPARING, ("spills", 2), ("spills", [2]), ("spills", (2,)))
        self.not_shown(SPILLING, ("spares", [(0, 0), (1, 0)]), ("spares", 0))

    def test_lists_and_tuples_are_as_told(self):
        told = ("spills", [(0, 0), (1, 0)])
        self.shown(SPILLING, told)
        self.not_shown(
            SPILLING, list(told), ("spills", ((0, 0), (1, 0))), ("spills", [[0, 0], (1, 0)]),
            ("spills", [(0, 0), [1, 0]]), ["spills", ((0, 0), (1, 0))], ("spills", [(0, 0), ([1], 0)]),
            ("spills", [[(0, 0), (1, 0)]]), [("spills", [(0, 0), (1, 0)])],
        )
        self.not_shown(SPARING, ["spares", 2], ("spares", [2]), ("spares", (2,)), (("spares",), 2), (("spares", 2),))

    def test_truths(self):
        self.not_shown(SPILLING, ("spills", [(False, 0), (1, 0)]), ("spills", [(0, 0), (True, 0)]))
        self.not_shown(SPILLING, ("spills", [(0, False), (1, 0)]), ("spills", [(0, 0), (1, False)]))
        self.not_shown(SPILLING, ("spills", True), ("spills", False), (True, [(0, 0), (1, 0)]))
        whole = (((12, True),), (12,), 10)
        self.shown(whole, ("spares", 0), ("spares", 2))
        self.not_shown(whole, ("spares", False), ("spares", True))
        self.shown((((12, True),), (12,), 11), ("spares", 0), ("spares", 1))
        self.not_shown((((12, True),), (12,), 11), ("spares", False), ("spares", True))

    def test_parts_more_or_fewer(self):
        self.not_shown(SPARING, (), ("spares",), (2,), ("spares", 2, 2), ("spares", 2, None), ("spares", 2, ()))
        self.not_shown(
            SPILLING, ("spills",), ("spills", [(0, 0), (1, 0)], []), ("spills", [(0,), (0, 0), (1, 0)]),
            ("spills", [(0, 0), (1, 0), ()]), ("spills", [(0, 0, 0), (1, 0)]), ("spills", [(0, 0), (1, 0, 0)]),
        )

    def test_spoilt_at_any_depth(self):
        others = (None, True, False, "", "0", "spares", "spills", (), [], (0,), [0], (0, 0), [0, 0], [(0, 0)], -1, FAR)
        for other in others:
            self.not_shown(SPARING, other, ("spares", other), (other, other))
            if other != "spares":
                self.not_shown(SPARING, (other, 2))
            if other != "spills":
                self.not_shown(SPILLING, (other, [(0, 0), (1, 0)]))
            self.not_shown(SPILLING, ("spills", other))
            self.not_shown(SPILLING, ("spills", [(other, 0), (0, 0), (1, 0)]), ("spills", [(0, 0), (1, 0), (0, other)]))
            if other != (0, 0):
                self.not_shown(SPILLING, ("spills", [other, (0, 0), (1, 0)]), ("spills", [(0, 0), (1, 0), other]))

    def test_eight_deep(self):
        deep = 0
        for _ in range(8):
            deep = (deep,) if deep == 0 or deep.__class__ is list else [deep]
            self.not_shown(SPARING, deep, ("spares", deep), (deep, 2))
            self.not_shown(SPILLING, ("spills", deep), ("spills", [deep]), ("spills", [(0, 0), (1, 0), (deep, 0)]))

    def test_great(self):
        for hill in plain.GREAT_SPARING:
            last = common(hill) - 1
            self.not_shown(hill, ("spills", pairs_of(hill)), ("spares", last + 1), ("spares", -1), ("spares", FAR))
        trillion = 10 ** 12
        for kind, told in (
            (0, True), (1, False), (8, False), (9, False), (10, True), (trillion // 2, True),
            (trillion // 2 + 1, False), (trillion // 2 + 9, False), (trillion // 2 + 10, True),
            (3 * trillion - 1, True),
        ):
            self.assertIs(shows_paper(plain.HALVES, ("spares", kind)), told, kind)
        # A class is left out by one number.
        hill = (((trillion, True),), (trillion // 2, trillion // 2), trillion // 2 - 1)
        self.shown(hill, ("spills", [(0, 0), (1, 0)]))
        self.not_shown(hill, ("spills", [(0, 0)]), ("spills", [(1, 0)]))
        wider = (hill[0], hill[1], trillion // 2)
        self.not_shown(wider, ("spills", [(0, 0), (1, 0)]))
        self.shown(wider, ("spares", 0), ("spares", trillion // 2))
        self.not_shown(wider, ("spares", 1), ("spares", trillion // 2 + 1), ("spares", trillion - 1))


class HandedIn(unittest.TestCase):
    def test_paper(self):
        plain.check_asking(self, paper, ("hill",), (SPILLING,), SPARING)
        plain.check_asking(self, paper, ("hill",), (SPARING,), SPILLING)

    def test_hills_of_lists(self):
        for hill, told in ((SPARING, ("spares", 2)), (SPILLING, ("spills", [(0, 0), (1, 0)]))):
            for way in plain.with_lists(hill):
                before = plain.kinds((way, told))
                self.assertIs(shows_paper(way, told), True)
                self.assertIs(shows_paper(way, list(told)), False)
                self.assertIs(shows_paper(thing=told, hill=way), True)
                self.assertIs(shows_paper(thing=(told,), hill=way), False)
                self.assertEqual(plain.kinds((way, told)), before)

    def test_is_not_kept(self):
        hill, told = plain.all_lists(SPILLING), ("spills", [(0, 0), (1, 0)])
        self.assertIs(shows_paper(hill, told), True)
        told[1].pop()
        self.assertIs(shows_paper(hill, told), False)
        told[1].append((1, 0))
        hill[2] = 10
        self.assertIs(shows_paper(hill, told), False)


if __name__ == "__main__":
    unittest.main()
