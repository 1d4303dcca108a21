"""What the tests measure the program by: hills, and the slow way through them, day by day."""

import itertools

ONE_DAY = (((1, True),), (1,), 0)
THREE_DAYS = (((3, True), (0, False), (2, True)), (4, 1), 2)
DRY_OPEN_DAYS = (((0, True), (5, False), (0, True), (0, False), (1, False)), (2, 7, 3), 4)
MONTHS = (
    ((4, True), (0, True), (9, False), (1, False), (0, False), (2, True),
     (7, False), (3, True), (0, False), (5, False), (8, True), (6, False)),
    (13, 1, 60, 5, 22, 9),
    11,
)
ONE_DROP = (((0, False), (0, True), (1, False)), (5, 1), 3)
NO_POT = (((6, True), (1, True), (0, True)), (2, 3, 1), 0)
GREAT_POT = (((2, True), (3, False)), (1, 2), 50)
HILLS = (ONE_DAY, THREE_DAYS, DRY_OPEN_DAYS, MONTHS, ONE_DROP, NO_POT, GREAT_POT)


def small_years(days):
    """All years of so many days with few drops."""
    day_kinds = list(itertools.product((0, 1, 3), (True, False)))
    years = itertools.product(day_kinds, repeat=days)
    return [year for year in years if sum(day[0] for day in year) and any(day[1] for day in year)]


def small_hills():
    """Hills of all small years, with each of some rings and each of some pots."""
    years = [year for days in (1, 2, 3) for year in small_years(days)]
    rings = ((1,), (2, 5), (7, 1), (3, 3, 1))
    return list(itertools.product(years, rings, (0, 1, 4)))


def is_open(hill, day):
    return hill[0][day % len(hill[0])][1]


def drops_of(hill, day):
    return hill[0][day % len(hill[0])][0]


def plain_given_by(hill, day):
    given = 0
    for at in range(day + 1):
        given += drops_of(hill, at)
    return given


def plain_open_from(hill, day):
    while not is_open(hill, day):
        day += 1
    return day


def plain_day_of(hill, drops):
    day = 0
    given = drops_of(hill, 0)
    while given < drops or not is_open(hill, day):
        day += 1
        given += drops_of(hill, day)
    return day


def plain_turn(hill, state):
    """The ant sits down and waits, drop by drop, evening by evening."""
    day, ant, pot = state
    need = hill[1][ant]
    while pot < need or not is_open(hill, day):
        day += 1
        for _ in range(drops_of(hill, day)):
            pot += 1
    pot -= need
    lost = 0
    while pot > hill[2]:
        pot -= 1
        lost += 1
    ant = 0 if ant == len(hill[1]) - 1 else ant + 1
    return (day, ant, pot), lost


def plain_turns(hill, state, many):
    told = []
    for _ in range(many):
        told.append(plain_turn(hill, state))
        state = told[-1][0]
    return told


def states_of(hill, days):
    """All STATEs of the hill on the open ones of so many days."""
    return [
        (day, ant, pot)
        for day in range(days) if is_open(hill, day)
        for ant in range(len(hill[1]))
        for pot in range(hill[2] + 1)
    ]


def with_lists(thing):
    """The thing in every way in which some of its tuples are lists."""
    if not isinstance(thing, tuple):
        return [thing]
    parts = [list(way) for way in itertools.product(*[with_lists(part) for part in thing])]
    return [kind(way) for way in parts for kind in (tuple, list)]


def all_lists(thing):
    """The thing with a list for each of its tuples."""
    if isinstance(thing, tuple):
        return [all_lists(part) for part in thing]
    return thing


def kinds(thing):
    """The thing written out: unlike ==, this tells True from 1 and a list from a tuple."""
    return repr(thing)


def plain_year(hill):
    return plain_given_by(hill, len(hill[0]) - 1)


def plain_line(hill, state):
    return plain_given_by(hill, state[0]) - state[2]


def plain_lost_at(hill, number):
    """By the first open evening with so much given; years ahead of day 0 are as those behind it."""
    around = plain_year(hill)
    alike = number
    while alike < 1:
        alike += around
    return max(0, plain_given_by(hill, plain_day_of(hill, alike)) - hill[2] - alike)


def plain_losses_of_year(hill):
    """What is lost at each number of a year."""
    return [plain_lost_at(hill, number) for number in range(plain_year(hill))]


def plain_led(hill, ant, line, lost):
    """Led by what is lost at each number of a year."""
    number = line + hill[1][ant]
    return number + lost[number % len(lost)]


def plain_way(hill, state):
    """The rows (STATE, lost) of a STATE and behind its turns, till ant and line around the year come again.

    Told with the rows is the number of the one that the last one is like.
    """
    around = plain_year(hill)
    rows = [(state, 0)]
    seen = {}
    while True:
        last = rows[-1][0]
        like = (last[1], plain_line(hill, last) % around)
        if like in seen:
            return rows, seen[like]
        seen[like] = len(rows) - 1
        rows.append(plain_turn(hill, last))


def some_states(hill):
    """A few STATEs of a hill: with each ant, with a pot that is bare, full, between."""
    days = [day for day in range(2 * len(hill[0])) if is_open(hill, day)]
    pots = sorted({0, hill[2] // 2, hill[2]})
    return [
        (days[ant % len(days)], ant, pot) for ant in range(len(hill[1])) for pot in pots
    ] + [(days[-1], 0, 0)]


def some_hills():
    """The named hills and some of the small ones, of each ring and each pot."""
    return HILLS + tuple(small_hills()[::13])


def lists_in(thing):
    """All lists in the thing, at any depth."""
    if not isinstance(thing, (list, tuple)):
        return []
    own = [thing] if isinstance(thing, list) else []
    return own + [found for part in thing for found in lists_in(part)]


def spoil(thing):
    """Changes each list in the thing."""
    for found in lists_in(thing):
        found.reverse()
        found.append("spoilt")


def check_asking(case, ask, names, handed, other):
    """Asked by places and by names, with lists for tuples, ask tells the same each time.

    Nothing handed in is changed, told lists are the asker's own, and nothing is kept: the hill is
    then made the other one in place.
    """
    told = kinds(ask(*handed))
    for way in itertools.product(*[with_lists(part) for part in handed]):
        before = kinds(way)
        by_place = ask(*way)
        by_name = ask(**dict(reversed(list(zip(names, way)))))
        case.assertEqual((kinds(by_place), kinds(by_name), kinds(way)), (told, told, before))
        same = [id(found) for thing in (by_place, by_name, way) for found in lists_in(thing)]
        case.assertEqual(len(same), len(set(same)), (ask, way))
        spoil(by_place)
        case.assertEqual((kinds(by_name), kinds(ask(*way)), kinds(way)), (told, told, before))
    hill = all_lists(handed[0])
    kept = ask(hill, *handed[1:])
    hill[:] = all_lists(other)
    case.assertEqual(kinds(kept), told)
    case.assertEqual(kinds(ask(hill, *handed[1:])), kinds(ask(other, *handed[1:])))
    case.assertNotEqual(kinds(ask(other, *handed[1:])), told, "the other hill tells the same")


def plain_spares(hill, ant, kind, around, lost):
    """Whether a class spares: each line of a year that is of it goes on losing nothing, till it comes round."""
    for line in range(kind, len(lost), around):
        at, next_ant, seen = line, ant, set()
        while (at, next_ant) not in seen:
            seen.add((at, next_ant))
            at = (at + hill[1][next_ant]) % len(lost)
            if lost[at]:
                return False
            next_ant = (next_ant + 1) % len(hill[1])
    return True


def plain_common(hill):
    year, ring = plain_year(hill), sum(hill[1])
    return max(many for many in range(1, min(year, ring) + 1) if year % many == 0 and ring % many == 0)


def plain_classes(hill, ant):
    """All classes that spare with that ant next, one by one."""
    around, lost = plain_common(hill), plain_losses_of_year(hill)
    return [kind for kind in range(around) if plain_spares(hill, ant, kind, around, lost)]
