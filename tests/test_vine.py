import copy
import random
import unittest

from honeyturns.errors import Already, Barren, Dry, Last, NoAnt, NoDay, NoDeed, Today
from honeyturns.far import behind, lost_by
from honeyturns.hills import is_hill, open_from
from honeyturns.losses import losses
from honeyturns.turns import is_state
from honeyturns.vine import Vine

import plain

HILL = (((12, True), (0, False)), (5, 3), 8)
OTHER = (((12, True), (0, False)), (5, 4), 7)
FAR = 10 ** 40
DEEDS = ("go", "pour", "dip", "weather", "unlock", "lock", "need", "adopt", "part", "pot")


def row_of(vine):
    """All that a vine tells but for its log."""
    return vine.hill(), vine.state(), vine.lost(), vine.gone(), vine.deeds()


def do(vine, word, numbers):
    """What the deed tells; of a refusal its class's name and what it was made with."""
    try:
        return getattr(vine, word)(*numbers)
    except (Already, Barren, Dry, Last, NoAnt, NoDay, Today) as refusal:
        return (type(refusal).__name__, vars(refusal))


def plain_deed(row, word, numbers):
    """The row (hill, STATE, lost, gone) behind a deed and what is told, by plain turns; a refusal's name and fields."""
    (year, needs, most), (day, ant, pot), lost, gone = row
    year, needs, more = list(year), list(needs), None
    if word == "go":
        told = plain.plain_turns((tuple(year), tuple(needs), most), (day, ant, pot), numbers[0])
        if told:
            day, ant, pot = told[-1][0]
        more = sum(part[1] for part in told)
        gone += numbers[0]
    elif word == "pour":
        more = max(0, pot + numbers[0] - most)
        pot = pot + numbers[0] - more
    elif word == "dip":
        if numbers[0] > pot:
            return "Dry", {"held": pot}
        pot -= numbers[0]
    elif word == "pot":
        most = numbers[0]
        more = pot - most if pot > most else 0
        pot -= more
    elif word in ("weather", "unlock", "lock"):
        at = numbers[0]
        if at not in range(len(year)):
            return "NoDay", {"day": at}
        drops, is_open = year[at]
        if word == "weather":
            drops = numbers[1]
        elif is_open == (word == "unlock"):
            return "Already", {"day": at}
        elif word == "lock" and day % len(year) == at:
            return "Today", {"day": at}
        else:
            is_open = not is_open
        year[at] = (drops, is_open)
        if sum(part[0] for part in year) == 0:
            return "Barren", {}
    elif word == "adopt":
        if numbers[0] not in range(len(needs) + 1):
            return "NoAnt", {"ant": numbers[0]}
        # Whose turn is next is told by a mark, not by its number.
        ring = [(need, at == ant) for at, need in enumerate(needs)]
        ring.insert(numbers[0], (numbers[1], False))
        needs, ant = [need for need, _ in ring], [mark for _, mark in ring].index(True)
    else:
        at = numbers[0]
        if at not in range(len(needs)):
            return "NoAnt", {"ant": at}
        if word == "need":
            needs[at] = numbers[1]
        elif len(needs) == 1:
            return "Last", {}
        else:
            marks = [place == ant for place in range(len(needs))]
            if marks[at]:
                marks[(at + 1) % len(marks)] = True
            del needs[at], marks[at]
            ant = marks.index(True)
    hill = (tuple(year), tuple(needs), most)
    return (hill, (day, ant, pot), lost + (more or 0), gone), more


def some_numbers(word, chance):
    """Numbers for a deed, right and wrong ones, as small hills have them."""
    if word in ("go", "pour", "dip", "pot"):
        return (chance.choice((0, 1, 1, 2, 3, 5, 9)),)
    if word == "weather":
        return (chance.randrange(-1, 5), chance.choice((0, 0, 1, 4, 9)))
    if word in ("need", "adopt"):
        return (chance.randrange(-1, 5), chance.choice((1, 2, 5, 8)))
    return (chance.randrange(-1, 5),)


class BesidePlain(unittest.TestCase):
    def test_any_deeds(self):
        chance = random.Random(1)
        seen = set()
        for hill in plain.HILLS + tuple(plain.small_hills()[::13]) + (HILL, OTHER):
            state = chance.choice(plain.some_states(hill))
            vine, rows, log = Vine(hill, state), [(hill, state, 0, 0)], []
            for _ in range(chance.randrange(30)):
                word = chance.choice(DEEDS + ("undo",))
                log += [("in", word), ("out", word)]
                if word == "undo":
                    self.assertIs(vine.undo(), len(rows) > 1)
                    rows = rows[:-1] or rows
                else:
                    numbers = some_numbers(word, chance)
                    told = do(vine, word, numbers)
                    expected = plain_deed(rows[-1], word, numbers)
                    if isinstance(expected[0], str):
                        seen.add((word, expected[0]))
                        self.assertEqual(plain.kinds(told), plain.kinds(expected), (rows[-1], word, numbers))
                    else:
                        seen.add((word, "done"))
                        self.assertEqual(plain.kinds(told), plain.kinds(expected[1]), (rows[-1], word, numbers))
                        rows = rows + [expected[0]]
                self.assertEqual(plain.kinds(row_of(vine)), plain.kinds(rows[-1] + (len(rows) - 1,)))
                self.assertEqual(vine.log(), log)
            self.anew(vine, rows)
        refused = {("dip", "Dry"), ("weather", "NoDay"), ("weather", "Barren"), ("unlock", "NoDay"),
                   ("unlock", "Already"), ("lock", "NoDay"), ("lock", "Already"), ("lock", "Today"),
                   ("need", "NoAnt"), ("adopt", "NoAnt"), ("part", "NoAnt"), ("part", "Last")}
        self.assertEqual(seen, refused | {(word, "done") for word in DEEDS})

    def anew(self, vine, rows):
        """Beside a vine made anew of the hill and STATE that it tells; then back to the begin."""
        hill, state = vine.hill(), vine.state()
        self.assertIs(is_hill(hill), True)
        self.assertIs(is_state(hill, state), True)
        other = Vine(hill, state)
        self.assertEqual((other.lost(), other.gone(), other.deeds(), other.log()), (0, 0, 0, []))
        self.assertEqual(vine == other, vine.lost() == 0 and vine.gone() == 0)
        self.assertEqual((len(vine), repr(vine)), (len(other), repr(other)))
        self.assertEqual(vine.forecast(5), other.forecast(5))
        for many in range(len(rows)):
            part = vine.as_of(many)
            self.assertEqual(plain.kinds(row_of(part)), plain.kinds(rows[many] + (many,)))
        twin = vine.twin()
        self.assertEqual(twin.go(7), other.go(7))
        self.assertEqual((twin.hill(), twin.state()), (other.hill(), other.state()))
        for row in reversed(rows[:-1]):
            self.assertIs(vine.undo(), True)
            self.assertEqual(row_of(vine)[:4], row)
        self.assertIs(vine.undo(), False)
        self.assertEqual(row_of(vine), rows[0] + (0,))


class Deeds(unittest.TestCase):
    def setUp(self):
        self.vine = Vine(HILL, (0, 0, 0))

    def test_go(self):
        self.assertEqual(plain.kinds(self.vine.go(3)), "3")
        self.assertEqual(row_of(self.vine), (HILL, (4, 1, 8), 3, 3, 1))
        self.assertEqual((self.vine.go(0), self.vine.deeds(), self.vine.gone()), (0, 2, 3))
        self.assertEqual((self.vine.go(), self.vine.state(), self.vine.gone()), (0, (4, 0, 5), 4))
        self.assertEqual((self.vine.go(many=2), self.vine.lost(), self.vine.gone()), (1, 4, 6))

    def test_go_far(self):
        for hill in plain.HILLS + plain.GREAT:
            for state in plain.some_states(hill)[::8]:
                vine = Vine(hill, state)
                lost = vine.go(FAR)
                self.assertEqual((vine.state(), lost), (behind(hill, state, FAR), lost_by(hill, state, FAR)))
                self.assertEqual((vine.gone(), vine.lost(), vine.go(1)), (FAR, lost, lost_by(hill, vine.as_of(1).state(), 1)))
                self.assertEqual(vine.state(), behind(hill, state, FAR + 1))
                self.assertEqual((vine.undo(), vine.undo(), vine.state()), (True, True, state))

    def test_pour(self):
        self.assertEqual(plain.kinds(self.vine.pour(8)), "0")
        self.assertEqual((self.vine.pour(0), self.vine.state(), self.vine.lost()), (0, (0, 0, 8), 0))
        self.assertEqual((self.vine.pour(5), self.vine.state(), self.vine.lost()), (5, (0, 0, 8), 5))
        self.assertEqual((self.vine.pour(drops=FAR), self.vine.lost(), self.vine.gone()), (FAR, FAR + 5, 0))

    def test_dip(self):
        self.vine.pour(7)
        self.assertIsNone(self.vine.dip(3))
        self.assertEqual((self.vine.state(), self.vine.lost()), ((0, 0, 4), 0))
        with self.assertRaises(Dry) as caught:
            self.vine.dip(5)
        self.assertEqual(caught.exception.held, 4)
        self.assertIsNone(self.vine.dip(drops=4))
        self.assertIsNone(self.vine.dip(0))
        with self.assertRaises(Dry) as caught:
            self.vine.dip(1)
        self.assertEqual((caught.exception.held, self.vine.state()), (0, (0, 0, 0)))

    def test_weather(self):
        self.assertIsNone(self.vine.weather(1, 4))
        self.assertEqual(self.vine.hill(), (((12, True), (4, False)), (5, 3), 8))
        self.assertIsNone(self.vine.weather(day=0, drops=0))
        self.assertEqual(self.vine.hill(), (((0, True), (4, False)), (5, 3), 8))
        self.assertRaises(Barren, self.vine.weather, 1, 0)
        self.assertEqual((self.vine.hill()[0], self.vine.deeds()), (((0, True), (4, False)), 2))
        for day in (-1, 2, FAR):
            for drops in (0, 1):
                with self.assertRaises(NoDay) as caught:
                    self.vine.weather(day, drops)
                self.assertEqual(caught.exception.day, day)

    def test_weather_keeps_the_day_and_the_pot(self):
        vine = Vine(HILL, (10 ** 20 * 2, 1, 6))
        for day, drops in ((0, 1), (1, 10 ** 12), (0, 0)):
            vine.weather(day, drops)
            self.assertEqual(vine.state(), (10 ** 20 * 2, 1, 6))
        # Ant 1 takes 3 of 6; days 7 and 8 give 3 and 12, of what ant 0 leaves of 18 the pot keeps 8.
        vine = Vine(HILL, (6, 1, 6))
        vine.weather(1, 3)
        self.assertEqual((vine.go(), vine.state()), (0, (6, 0, 3)))
        self.assertEqual((vine.go(), vine.state()), (5, (8, 1, 8)))

    def test_unlock(self):
        self.assertIsNone(self.vine.unlock(1))
        self.assertEqual(self.vine.hill(), (((12, True), (0, True)), (5, 3), 8))
        for day in (0, 1):
            with self.assertRaises(Already) as caught:
                self.vine.unlock(day)
            self.assertEqual(caught.exception.day, day)
        for day in (-1, -2, 2):
            with self.assertRaises(NoDay) as caught:
                self.vine.unlock(day=day)
            self.assertEqual(caught.exception.day, day)
        self.assertEqual(self.vine.deeds(), 1)

    def test_lock(self):
        hill = (((1, True), (2, True), (0, False)), (5,), 8)
        for years in (0, 1, FAR):
            vine = Vine(hill, (3 * years + 1, 0, 4))
            for day, refusal in ((1, Today), (2, Already), (3, NoDay), (-1, NoDay), (3 * years + 4, NoDay)):
                with self.assertRaises(refusal) as caught:
                    vine.lock(day)
                self.assertEqual(caught.exception.day, day)
            self.assertIsNone(vine.lock(day=0))
            self.assertEqual((vine.hill()[0], vine.state()[0]), (((1, False), (2, True), (0, False)), 3 * years + 1))
            # The day on which it stands stays open: an open one is always left.
            self.assertRaises(Today, vine.lock, 1)
            vine.unlock(2)
            vine.pot(0)
            vine.go(2)
            self.assertEqual(vine.state()[0] % 3, 1)

    def test_need(self):
        self.assertIsNone(self.vine.need(1, 9))
        self.assertIsNone(self.vine.need(ant=0, many=1))
        self.assertEqual((self.vine.hill()[1], self.vine.state()), ((1, 9), (0, 0, 0)))
        for ant in (-1, 2, FAR):
            with self.assertRaises(NoAnt) as caught:
                self.vine.need(ant, 4)
            self.assertEqual(caught.exception.ant, ant)
        self.assertEqual(self.vine.hill()[1], (1, 9))

    def test_adopt(self):
        for ant, needs, own in ((0, (7, 5, 3), (1, 2)), (1, (5, 7, 3), (0, 2)), (2, (5, 3, 7), (0, 1))):
            for was in (0, 1):
                vine = Vine(HILL, (0, was, 4))
                self.assertIsNone(vine.adopt(ant, 7))
                self.assertEqual((vine.hill()[1], vine.state(), len(vine)), (needs, (0, own[was], 4), 3))
                self.assertEqual(vine.hill()[1][vine.state()[1]], HILL[1][was])
        for ant in (-1, 3):
            with self.assertRaises(NoAnt) as caught:
                self.vine.adopt(ant=ant, many=7)
            self.assertEqual(caught.exception.ant, ant)

    def test_part(self):
        hill = (((12, True),), (5, 3, 4), 8)
        rows = {
            (0, 0): ((3, 4), 0), (0, 1): ((3, 4), 0), (0, 2): ((3, 4), 1), (1, 0): ((5, 4), 0), (1, 1): ((5, 4), 1),
            (1, 2): ((5, 4), 1), (2, 0): ((5, 3), 0), (2, 1): ((5, 3), 1), (2, 2): ((5, 3), 0),
        }
        for (ant, was), (needs, own) in rows.items():
            vine = Vine(hill, (3, was, 4))
            self.assertIsNone(vine.part(ant))
            self.assertEqual((vine.hill()[1], vine.state(), len(vine)), (needs, (3, own, 4), 2))
        vine.part(0)
        self.assertEqual((vine.hill()[1], vine.state()[1], len(vine)), ((3,), 0, 1))
        self.assertRaises(Last, vine.part, 0)
        for ant in (-1, 1):
            with self.assertRaises(NoAnt) as caught:
                vine.part(ant=ant)
            self.assertEqual(caught.exception.ant, ant)

    def test_pot(self):
        self.vine.pour(7)
        self.assertEqual(plain.kinds(self.vine.pot(7)), "0")
        self.assertEqual((self.vine.pot(4), self.vine.hill(), self.vine.state()), (3, HILL[:2] + (4,), (0, 0, 4)))
        self.assertEqual((self.vine.pot(most=FAR), self.vine.hill()[2], self.vine.state()), (0, FAR, (0, 0, 4)))
        self.assertEqual((self.vine.pot(0), self.vine.state(), self.vine.lost()), (4, (0, 0, 0), 7))

    def test_of_two_refusals_due_the_first_one(self):
        # A day that the year hasn't, no drop left; one that's shut, which the vine can't stand on.
        vine = Vine((((1, True),), (5,), 8), (3, 0, 4))
        self.assertRaises(NoDay, vine.weather, 1, 0)
        self.assertRaises(Barren, vine.weather, 0, 0)
        self.assertRaises(NoDay, vine.lock, 3)
        self.assertRaises(Today, vine.lock, 0)
        # The only ant, and one that isn't there.
        self.assertRaises(NoAnt, vine.part, 1)
        self.assertRaises(NoAnt, vine.part, -1)
        self.assertRaises(Last, vine.part, 0)

    def test_refused_deeds_change_nothing_but_the_log(self):
        vine = Vine((((1, True),), (5,), 8), (3, 0, 4))
        vine.go(2)
        twin = vine.twin()
        before, words = row_of(vine), []
        for word, numbers in (("dip", (9,)), ("weather", (0, 0)), ("weather", (7, 1)), ("unlock", (0,)), ("lock", (0,)),
                              ("lock", (1,)), ("need", (1, 4)), ("adopt", (2, 4)), ("part", (0,)), ("part", (2,))):
            self.assertIsInstance(do(vine, word, numbers), tuple)
            words += [("in", word), ("out", word)]
            self.assertEqual(row_of(vine), before)
            self.assertTrue(vine == twin)
        self.assertEqual(vine.log(), [("in", "go"), ("out", "go")] + words)
        self.assertIs(vine.undo(), True)
        self.assertEqual(vine.gone(), 0)

    def test_undo(self):
        vine = Vine(HILL, (0, 0, 3))
        self.assertIs(vine.undo(), False)
        vine.go(2)
        vine.pot(2)
        vine.adopt(0, 4)
        vine.weather(1, 5)
        lost = vine.lost()
        for many in (3, 2):
            self.assertIs(vine.undo(), True)
            self.assertEqual((vine.deeds(), vine.lost(), vine.gone()), (many, lost, 2))
        self.assertEqual((vine.undo(), vine.hill(), vine.deeds()), (True, HILL, 1))
        self.assertEqual((lost, vine.lost(), vine.state()), (5, 2, (2, 0, 5)))
        # What is done behind an undo stands on what stood then.
        vine.pour(1)
        self.assertEqual((vine.undo(), vine.undo(), vine.undo()), (True, True, False))
        self.assertEqual(row_of(vine), (HILL, (0, 0, 3), 0, 0, 0))

    def test_sixty_deeds_and_back(self):
        for hill in plain.GREAT[:4]:
            vine, rows = Vine(hill, (0, 0, 0)), []
            for number in range(60):
                rows.append(row_of(vine))
                do(vine, ("go", "pour", "pot", "go")[number % 4], (10 ** (number % 13),))
            self.assertEqual(vine.deeds(), 60)
            for number in range(60):
                self.assertEqual(row_of(vine.as_of(number)), rows[number])
            for row in reversed(rows):
                self.assertIs(vine.undo(), True)
                self.assertEqual(row_of(vine), row)


class Asks(unittest.TestCase):
    def test_as_made(self):
        for hill in plain.HILLS + plain.GREAT:
            for state in plain.some_states(hill)[::5]:
                vine = Vine(hill, state)
                self.assertEqual(plain.kinds(row_of(vine)), plain.kinds((hill, state, 0, 0, 0)))
                self.assertEqual((vine.log(), len(vine)), ([], len(hill[1])))

    def test_forecast(self):
        for hill in plain.HILLS + plain.GREAT:
            vine = Vine(hill, (open_from(hill, 3), 0, 0))
            for deed in ((), ("go", 4), ("pot", 2), ("adopt", 0, 3)):
                if deed:
                    do(vine, deed[0], deed[1:])
                for many in (0, 1, 30):
                    expected = losses(vine.hill(), vine.state(), many)
                    self.assertEqual(plain.kinds(vine.forecast(many)), plain.kinds(expected))
                    self.assertEqual(plain.kinds(vine.forecast(many=many)), plain.kinds(expected))

    def test_as_of(self):
        vine = Vine(HILL, (0, 0, 0))
        vine.go(3)
        vine.pour(2)
        vine.part(0)
        for many in (0, 1, 2, 3):
            part = vine.as_of(many)
            self.assertEqual((part.deeds(), part.log()), (many, []))
            for less in range(many):
                self.assertIs(part.undo(), True)
                self.assertEqual(part.deeds(), many - less - 1)
            self.assertIs(part.undo(), False)
            self.assertEqual(row_of(part), (HILL, (0, 0, 0), 0, 0, 0))
        for many in (-1, 4, FAR):
            with self.assertRaises(NoDeed) as caught:
                vine.as_of(many=many)
            self.assertEqual(caught.exception.many, many)
        vine.undo()
        self.assertRaises(NoDeed, vine.as_of, 3)
        self.assertEqual(row_of(vine.as_of(1)), (HILL, (4, 1, 8), 3, 3, 1))
        self.assertEqual(len(vine.log()), 8)

    def test_as_of_counts_what_stands_alone(self):
        vine = Vine(HILL, (0, 0, 0))
        vine.go(1)
        vine.pour(5)
        vine.undo()
        vine.go(2)
        self.assertEqual((vine.as_of(1).gone(), vine.as_of(2).gone(), vine.as_of(2).lost()), (1, 3, 3))

    def test_twins_stand_apart(self):
        vine = Vine(HILL, (0, 0, 0))
        vine.go(3)
        twin, older = vine.twin(), vine.as_of(1)
        self.assertTrue(vine == twin == older)
        self.assertEqual((twin.deeds(), twin.log(), twin.undo()), (1, [], True))
        self.assertEqual((vine.gone(), older.gone(), twin.gone()), (3, 3, 0))
        self.assertFalse(vine == twin)
        vine.adopt(0, 1)
        older.pot(3)
        self.assertEqual((older.hill(), len(vine), len(older)), (HILL[:2] + (3,), 3, 2))
        self.assertEqual((vine.undo(), vine.undo(), vine.undo(), older.deeds()), (True, True, False, 2))
        self.assertEqual((vine.log()[0], older.log()), (("in", "go"), [("in", "pot"), ("out", "pot")]))

    def test_log(self):
        vine = Vine(HILL, (0, 0, 0))
        numbers = {"go": (), "pour": (1,), "dip": (1,), "weather": (0, 3), "unlock": (1,), "lock": (1,), "need": (0, 3),
                   "adopt": (1, 1), "part": (0,), "pot": (3,)}
        expected = []
        for word in DEEDS + ("undo",):
            do(vine, word, numbers.get(word, ()))
            expected += [("in", word), ("out", word)]
            self.assertEqual(plain.kinds(vine.log()), plain.kinds(expected))
        self.assertEqual(vine.deeds(), 9)
        # Asks aren't deeds.
        row_of(vine), vine.twin(), vine.forecast(3), len(vine), repr(vine)
        self.assertRaises(NoDeed, vine.as_of, 10)
        self.assertEqual(vine.log(), expected)

    def test_equal(self):
        one, other = Vine(HILL, (0, 0, 0)), Vine(plain.all_lists(HILL), [0, 0, 0])
        self.assertTrue(one == other)
        self.assertFalse(one != other)
        # The deeds may be any.
        one.go(2)
        other.go(1)
        self.assertFalse(one == other)
        other.go(1)
        other.pour(0)
        self.assertTrue(one == other)
        self.assertFalse(one != other)
        self.assertNotEqual(one.deeds(), other.deeds())

    def test_unequal(self):
        vine = Vine(HILL, (0, 0, 0))
        full = Vine(HILL, (0, 0, 8))
        full.pour(1)
        gone = Vine((((5, True), (0, True)), (5,), 8), (1, 0, 8))
        gone.go(1)
        for one, other in (
            (vine, Vine(OTHER, (0, 0, 0))), (vine, Vine(HILL, (2, 0, 0))), (vine, Vine(HILL, (0, 1, 0))),
            (vine, Vine(HILL, (0, 0, 1))), (full, Vine(HILL, (0, 0, 8))),
            (gone, Vine((((5, True), (0, True)), (5,), 8), (1, 0, 3))),
        ):
            self.assertFalse(one == other)
            self.assertTrue(one != other)
        self.assertEqual((gone.state(), gone.lost()), ((1, 0, 3), 0))
        for thing in (None, 0, "Vine(2 ants, day 0)", (HILL, (0, 0, 0), 0, 0), [HILL], object(), HILL, Vine):
            self.assertIs(vine == thing, False)
            self.assertIs(vine != thing, True)
            self.assertIs(thing == vine, False)

    def test_repr(self):
        self.assertEqual(repr(Vine(plain.MONTHS, (7, 2, 0))), "Vine(6 ants, day 7)")
        self.assertEqual(repr(Vine(plain.DRY_OPEN_DAYS, (7, 2, 0))), "Vine(3 ants, day 7)")
        vine = Vine(HILL, (2 * FAR, 1, 0))
        self.assertEqual(repr(vine), f"Vine(2 ants, day {2 * FAR})")
        vine.part(0)
        vine.go(1)
        self.assertEqual((repr(vine), len(vine)), (f"Vine(1 ants, day {2 * FAR + 2})", 1))


class HandedIn(unittest.TestCase):
    def test_made_by_names(self):
        self.assertTrue(Vine(state=(0, 1, 3), hill=HILL) == Vine(HILL, (0, 1, 3)))

    def test_made_of_lists_it_tells_tuples(self):
        for hill in plain.with_lists(HILL):
            for state in plain.with_lists((2, 1, 3)):
                before = copy.deepcopy((hill, state))
                vine = Vine(hill, state)
                self.assertEqual(plain.kinds(row_of(vine)), plain.kinds((HILL, (2, 1, 3), 0, 0, 0)))
                vine.weather(1, 4)
                vine.need(0, 2)
                vine.adopt(2, 9)
                vine.pour(1)
                vine.go(1)
                expected = ((((12, True), (4, False)), (2, 3, 9), 8), (2, 2, 1), 0, 1, 5)
                self.assertEqual(plain.kinds(row_of(vine)), plain.kinds(expected))
                self.assertEqual(plain.kinds((hill, state)), plain.kinds(before))

    def test_handed_in_lists_are_not_kept(self):
        hill, state = plain.all_lists(HILL), [2, 1, 3]
        vine = Vine(hill, state)
        twin = vine.twin()
        hill[0][0][0], hill[1][1], hill[2], state[2] = 1, 1, 1, 1
        hill[0].append([9, True])
        for made in (vine, twin):
            self.assertEqual(row_of(made), (HILL, (2, 1, 3), 0, 0, 0))
            made.go(4)
            self.assertEqual(made.state(), behind(HILL, (2, 1, 3), 4))
            made.undo()
            self.assertEqual(row_of(made), (HILL, (2, 1, 3), 0, 0, 0))

    def test_told_lists_are_the_askers_own(self):
        vine = Vine(HILL, (0, 0, 0))
        vine.go(2)
        log, forecast = vine.log(), vine.forecast(3)
        for told in (log, forecast):
            plain.spoil(told)
        self.assertEqual(vine.log(), [("in", "go"), ("out", "go")])
        self.assertEqual(vine.forecast(3), losses(HILL, vine.state(), 3))
        self.assertIsNot(vine.log(), vine.log())
        self.assertIsNot(vine.forecast(2), vine.forecast(2))

    def test_asking_changes_nothing(self):
        vine = Vine(HILL, (0, 0, 0))
        vine.go(2)
        twin, before = vine.twin(), row_of(vine)
        for _ in range(2):
            self.assertEqual((row_of(vine), vine.forecast(4), vine.log(), len(vine), repr(vine)),
                             (before, twin.forecast(4), [("in", "go"), ("out", "go")], 2, repr(twin)))
            self.assertTrue(vine == twin)


if __name__ == "__main__":
    unittest.main()
