"""The whole program: what is promised above all, over many small hills, and of what is handed in and told."""

import importlib
import inspect
import random
import unittest

from honeyturns.back import least_pot, pots_seen
from honeyturns.desk import answers
from honeyturns.far import behind, gone_by, lost_by, lost_until
from honeyturns.houses import house, joined, led_by
from honeyturns.lines import line_of, stretches
from honeyturns.losses import losses, next_loss
from honeyturns.pairs import gaps, meeting, rounds_behind
from honeyturns.papers import paper, shows_paper
from honeyturns.pots import enough, least_for, least_sparing, with_pot
from honeyturns.rounds import lost_a_round, pace, round_from
from honeyturns.sparing import common, lost_in_all, spares
from honeyturns.texts import hill_in, hill_text
from honeyturns.turns import turns
from honeyturns.vine import Vine

import plain
from test_layout import FUNCTIONS

FAR = 10 ** 40
HILL = (((12, True), (0, False)), (5, 3), 8)
OTHER = (((7, True), (3, False), (2, True)), (2, 3, 1), 3)


def hills():
    return plain.HILLS + tuple(plain.small_hills()[::7]) + (HILL, OTHER)


class Promised(unittest.TestCase):
    def test_a_one_pace_however_it_is_begun(self):
        for hill in hills():
            rounds, years = pace(hill)
            for state in plain.some_states(hill):
                rows, again = plain.plain_way(hill, state)
                turns_round = len(rows) - 1 - again
                drops = plain.plain_line(hill, rows[-1][0]) - plain.plain_line(hill, rows[again][0])
                self.assertEqual((turns_round, drops), (rounds * len(hill[1]), years * plain.plain_year(hill)), hill)

    def test_b_it_spares_or_it_spills(self):
        both = set()
        for hill in hills():
            told = paper(hill)
            both.add(told[0])
            self.assertIs(shows_paper(hill, told), True)
            self.assertEqual(told[0], "spares" if spares(hill) else "spills")
            for state in plain.some_states(hill):
                rows, again = plain.plain_way(hill, state)
                lost = sum(row[1] for row in rows[again + 1:])
                self.assertEqual(lost == 0, spares(hill), (hill, state))
            other = ("spills", [(ant, place) for ant in range(len(hill[1])) for place in range(len(stretches(hill)))])
            if spares(hill):
                self.assertIs(shows_paper(hill, other), False)
            else:
                for kind in range(common(hill)):
                    self.assertIs(shows_paper(hill, ("spares", kind)), False)
        self.assertEqual(both, {"spares", "spills"})

    def test_c_what_a_beginning_ever_loses_where_it_spares(self):
        for hill in hills():
            for state in plain.some_states(hill):
                rows, _ = plain.plain_way(hill, state)
                expected = sum(row[1] for row in rows) if spares(hill) else None
                self.assertEqual(lost_in_all(hill, state), expected, (hill, state))

    def test_d_losses_come_round_in_a_closed_row(self):
        for hill in hills():
            if not spares(hill):
                for state in plain.some_states(hill)[::3]:
                    rows, again = plain.plain_way(hill, state)
                    self.assertEqual(round_from(hill, state), again)
                    self.assertEqual(sum(row[1] for row in rows[again + 1:]), lost_a_round(hill))
                    one, other = (behind(hill, state, again + many) for many in (0, pace(hill)[0] * len(hill[1])))
                    days = pace(hill)[1] * len(hill[0])
                    shifted = [(turn, (at[0] + days,) + at[1:], lost) for turn, at, lost in losses(hill, one, 20)]
                    self.assertEqual(losses(hill, other, 20), shifted)

    def test_e_next_loss_and_far_turns_without_going_there(self):
        for hill in hills():
            for state in plain.some_states(hill)[::3]:
                rows, again = plain.plain_way(hill, state)
                found = [turn for turn, row in enumerate(rows) if row[1]]
                told = next_loss(hill, state)
                self.assertEqual(told and told[0], found[0] if found else None)
                at, lost = state, 0
                for many, row in enumerate(rows):
                    lost += row[1]
                    at = row[0]
                    self.assertEqual((behind(hill, state, many), lost_by(hill, state, many)), (at, lost))
                day = at[0] - 1
                if day >= state[0]:
                    gone = sum(row[0][0] <= day for row in rows[1:])
                    self.assertEqual(gone_by(hill, state, day), gone)
                    self.assertEqual(lost_until(hill, state, day), sum(row[1] for row in rows[:gone + 1]))

    def test_f_pots_by_a_day_and_of_evenings(self):
        for hill in hills():
            for day, ant, pot in plain.some_states(hill)[::2]:
                ways = [[at[0] for at, _ in plain.plain_turns(hill, (day, ant, at), 5)] for at in range(hill[2] + 1)]
                by = ways[pot][-1]
                self.assertEqual(least_pot(hill, day, ant, 5, by), min(at for at, row in enumerate(ways) if row[-1] <= by))
                fitting = [at for at, row in enumerate(ways) if row == ways[pot]]
                self.assertEqual(pots_seen(hill, day, ant, ways[pot]), (fitting[0], fitting[-1]))

    def test_g_who_is_behind_stays_so_and_when_they_are_one(self):
        for hill in hills():
            states = [state for state in plain.some_states(hill) if state[1] == 0]
            for one in states:
                for other in states:
                    told = gaps(hill, one, other, 40)
                    self.assertTrue(min(told) >= 0 or max(told) <= 0)
                    first = meeting(hill, one, other)
                    self.assertEqual([gap == 0 for gap in told], [first is not None and many >= first for many in range(41)])
                    rounds = [rounds_behind(hill, behind(hill, one, many), behind(hill, other, many)) for many in (0, 3, 40)]
                    self.assertEqual(rounds, sorted(rounds, reverse=True))

    def test_h_greater_pots_are_never_worse(self):
        for hill in hills()[::3]:
            told = [with_pot(hill, most) for most in range(enough(hill) + 2)]
            sparing = [spares(potted) for potted in told]
            self.assertEqual(sparing, sorted(sparing))
            self.assertEqual(sparing.index(True), least_sparing(hill))
            paces = [pace(potted) for potted in told]
            for most, (rounds, years) in enumerate(paces):
                self.assertLessEqual(least_for(hill, rounds, years), most)
                self.assertEqual(paces[least_for(hill, rounds, years)], (rounds, years))
            state = plain.some_states((hill[0], hill[1], 0))[0]
            lines = [line_of(potted, behind(potted, state, 30)) for potted in told]
            self.assertEqual(lines, sorted(lines, reverse=True))

    def test_i_a_vine_tells_what_one_made_anew_tells(self):
        chance = random.Random(9)
        for hill in hills()[::4]:
            vine = Vine(hill, plain.some_states(hill)[0])
            for _ in range(12):
                word, numbers = chance.choice((
                    ("go", (chance.randrange(9),)), ("pour", (chance.randrange(9),)), ("undo", ()), ("weather", (0, 4)),
                    ("need", (0, 1 + chance.randrange(9))), ("adopt", (1, 2)), ("pot", (chance.randrange(9),)),
                    ("dip", (3,)), ("part", (1,)), ("unlock", (1,)), ("lock", (0,)),
                ))
                try:
                    getattr(vine, word)(*numbers)
                except (ArithmeticError, LookupError, RuntimeError):
                    pass
                anew = Vine(vine.hill(), vine.state())
                self.assertEqual((anew.forecast(3), len(anew), repr(anew)), (vine.forecast(3), len(vine), repr(vine)))
                both = [made.twin() for made in (vine, anew)]
                self.assertEqual(both[0].go(11), both[1].go(11))
                self.assertEqual((both[0].hill(), both[0].state()), (both[1].hill(), both[1].state()))
                text = f"{hill_text(vine.hill())}\nbegin " + " ".join(str(number) for number in vine.state())
                told = " ".join(str(number) for number in both[0].state())
                self.assertEqual(answers(text + "\ngo 11\nstate")[1], told)

    def test_houses_lead_as_turns_do(self):
        for hill in hills():
            for state in plain.some_states(hill)[::2]:
                told = joined(house(hill, state[1], 4), house(hill, (state[1] + 4) % len(hill[1]), 3))
                expected = plain.plain_line(hill, plain.plain_turns(hill, state, 7)[-1][0])
                self.assertEqual(led_by(told, line_of(hill, state)), expected)


# What each function of the interface is handed.
HANDED = {
    "given_by": (HILL, 7), "open_from": (OTHER, 4), "day_of": (HILL, 30), "year_drops": (HILL,), "ring_needs": (HILL,),
    "is_hill": (HILL,), "is_state": (HILL, (2, 1, 5)), "turn": (HILL, (2, 1, 5)), "turns": (HILL, (2, 1, 5), 4),
    "line_of": (HILL, (2, 1, 5)), "stretches": (HILL,), "lost_at": (HILL, 13), "led": (HILL, 1, 40),
    "first_in": (3, 7, 10, 2, 4), "last_below": (3, 7, 10, 2, 4, 50),
    "common": (HILL,), "sparing": (HILL, 1), "spares": (HILL,), "lost_in_all": (HILL, (2, 1, 5)),
    "paper": (HILL,), "shows_paper": (HILL, ("spills", [(0, 0), (1, 0)])),
    "next_loss": (HILL, (2, 1, 5)), "losses": (HILL, (2, 1, 5), 9),
    "pace": (HILL,), "round_from": (HILL, (2, 1, 5)), "lost_a_round": (HILL,),
    "behind": (HILL, (2, 1, 5), FAR), "lost_by": (HILL, (2, 1, 5), FAR), "gone_by": (HILL, (2, 1, 5), FAR),
    "lost_until": (HILL, (2, 1, 5), FAR),
    "latest_line": (HILL, 1, 7, -3), "least_pot": (HILL, 2, 1, 3, 4), "pots_seen": (HILL, 2, 1, (2, 4)),
    "gaps": (HILL, (2, 1, 5), (0, 1, 3), 5), "meeting": (HILL, (2, 1, 5), (0, 1, 3)),
    "rounds_behind": (HILL, (0, 1, 5), (200, 1, 3)),
    "with_pot": (HILL, 4), "enough": (HILL,), "least_sparing": (HILL,), "least_for": (HILL, 2, 3),
    "house": (HILL, 1, 6), "led_by": ((12, 8, ((5, 7, 16), (8, 11, 19))), 30),
    "joined": ((12, 8, ((5, 7, 16), (8, 11, 19))), (12, 3, ((10, 13, 16),))),
    "hill_text": (HILL,), "hill_in": (hill_text(HILL),),
    "answers": (hill_text(HILL) + "\nbegin 0 0 0\ngo 3\nstate",),
}
# Lists don't stand for tuples in a thing.
THINGS = ("is_hill", "is_state", "shows_paper")


class HandedInAndTold(unittest.TestCase):
    def functions(self):
        for file, names in FUNCTIONS.items():
            module = importlib.import_module("honeyturns." + file[:-3])
            for name, parameters in names.items():
                yield name, getattr(module, name), parameters, HANDED[name]

    def test_each_function_is_asked(self):
        self.assertEqual(sorted(HANDED), sorted(name for name, _, _, _ in self.functions()))
        for name, ask, parameters, handed in self.functions():
            self.assertEqual((list(inspect.signature(ask).parameters), len(handed)), (parameters, len(parameters)), name)

    def test_by_places_and_by_names(self):
        for name, ask, parameters, handed in self.functions():
            told = plain.kinds(ask(*handed))
            self.assertEqual(plain.kinds(ask(**dict(zip(parameters, handed)))), told, name)
            for many in range(len(handed)):
                self.assertEqual(plain.kinds(ask(*handed[:many], **dict(zip(parameters[many:], handed[many:])))), told)

    def test_lists_for_tuples_and_what_is_handed_in_stays(self):
        for name, ask, _, handed in self.functions():
            told = plain.kinds(ask(*handed))
            last = len(handed) - 1 if name in THINGS else len(handed)
            ways = [plain.all_lists(part) for part in handed[:last]]
            before = plain.kinds(ways)
            self.assertEqual(plain.kinds(ask(*ways, *handed[last:])), told, name)
            self.assertEqual(plain.kinds(ways), before, name)

    def test_told_lists_are_the_askers_own(self):
        for name, ask, _, handed in self.functions():
            expected = plain.kinds(ask(*handed))
            ways = [plain.all_lists(part) for part in handed] if name not in THINGS else list(handed)
            one, other = ask(*ways), ask(*ways)
            same = [id(found) for thing in (one, other, ways) for found in plain.lists_in(thing)]
            self.assertEqual(len(same), len(set(same)), name)
            plain.spoil(one)
            self.assertEqual((plain.kinds(other), plain.kinds(ask(*ways))), (expected, expected), name)

    def test_kinds_of_numbers(self):
        def numbers(thing):
            if isinstance(thing, (list, tuple)):
                return [number for part in thing for number in numbers(part)]
            return [thing]
        yes_or_no = ("is_hill", "is_state", "spares", "shows_paper")
        for name, ask, _, handed in self.functions():
            kinds = {type(number) for number in numbers(ask(*handed))}
            if name in yes_or_no:
                self.assertEqual(kinds, {bool}, name)
            elif name in ("hill_text", "answers"):
                self.assertEqual(kinds, {str}, name)
            else:
                self.assertTrue(kinds <= {int, type(None)} or name in ("with_pot", "paper", "hill_in"), name)

    def test_hills_of_other_kinds_are_as_the_first(self):
        # A hill read from its text is one that is written out.
        for hill in hills() + plain.GREAT:
            read = hill_in(hill_text(hill))
            self.assertEqual((turns(read, plain.some_states(hill)[0], 3), pace(read)),
                             (turns(hill, plain.some_states(hill)[0], 3), pace(hill)))


if __name__ == "__main__":
    unittest.main()
