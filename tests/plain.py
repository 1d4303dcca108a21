"""What the tests measure the program by: hills, and the slow way through them, day by day."""

import itertools

ONE_DAY = (((1, True),), (1,), 0)
THREE_DAYS = (((3, True), (0, False), (2, True)), (4, 1), 2)
DRY_OPEN_DAYS = (((0, True), (5, False), (0, True), (0, False), (1, False)), (2, 7, 3), 4)
MONTHS = (
    ((4, True), (0, True), (9, False), (1, False), (0, False), (2, True),
     (7, False), (3, True), (0, False), (5, False), (8, True), (6, False)),
    (13, 1, 60, 5, 22, 9),
    11,
)
ONE_DROP = (((0, False), (0, True), (1, False)), (5, 1), 3)
NO_POT = (((6, True), (1, True), (0, True)), (2, 3, 1), 0)
GREAT_POT = (((2, True), (3, False)), (1, 2), 50)
HILLS = (ONE_DAY, THREE_DAYS, DRY_OPEN_DAYS, MONTHS, ONE_DROP, NO_POT, GREAT_POT)


def small_years(days):
    """All years of so many days with few drops."""
    day_kinds = list(itertools.product((0, 1, 3), (True, False)))
    years = itertools.product(day_kinds, repeat=days)
    return [year for year in years if sum(day[0] for day in year) and any(day[1] for day in year)]


def small_hills():
    """Hills of all small years, with each of some rings and each of some pots."""
    years = [year for days in (1, 2, 3) for year in small_years(days)]
    rings = ((1,), (2, 5), (7, 1), (3, 3, 1))
    return list(itertools.product(years, rings, (0, 1, 4)))


def is_open(hill, day):
    return hill[0][day % len(hill[0])][1]


def drops_of(hill, day):
    return hill[0][day % len(hill[0])][0]


def plain_given_by(hill, day):
    given = 0
    for at in range(day + 1):
        given += drops_of(hill, at)
    return given


def plain_open_from(hill, day):
    while not is_open(hill, day):
        day += 1
    return day


def plain_day_of(hill, drops):
    day = 0
    given = drops_of(hill, 0)
    while given < drops or not is_open(hill, day):
        day += 1
        given += drops_of(hill, day)
    return day


def plain_turn(hill, state):
    """The ant sits down and waits, drop by drop, evening by evening."""
    day, ant, pot = state
    need = hill[1][ant]
    while pot < need or not is_open(hill, day):
        day += 1
        for _ in range(drops_of(hill, day)):
            pot += 1
    pot -= need
    lost = 0
    while pot > hill[2]:
        pot -= 1
        lost += 1
    ant = 0 if ant == len(hill[1]) - 1 else ant + 1
    return (day, ant, pot), lost


def plain_turns(hill, state, many):
    told = []
    for _ in range(many):
        told.append(plain_turn(hill, state))
        state = told[-1][0]
    return told


def states_of(hill, days):
    """All STATEs of the hill on the open ones of so many days."""
    return [
        (day, ant, pot)
        for day in range(days) if is_open(hill, day)
        for ant in range(len(hill[1]))
        for pot in range(hill[2] + 1)
    ]


def with_lists(thing):
    """The thing in every way in which some of its tuples are lists."""
    if not isinstance(thing, tuple):
        return [thing]
    parts = [list(way) for way in itertools.product(*[with_lists(part) for part in thing])]
    return [kind(way) for way in parts for kind in (tuple, list)]


def all_lists(thing):
    """The thing with a list for each of its tuples."""
    if isinstance(thing, tuple):
        return [all_lists(part) for part in thing]
    return thing


def kinds(thing):
    """The thing written out: unlike ==, this tells True from 1 and a list from a tuple."""
    return repr(thing)
