"""What the tests measure the program by: hills, and the slow way through them, day by day."""

import itertools

ONE_DAY = (((1, True),), (1,), 0)
THREE_DAYS = (((3, True), (0, False), (2, True)), (4, 1), 2)
DRY_OPEN_DAYS = (((0, True), (5, False), (0, True), (0, False), (1, False)), (2, 7, 3), 4)
MONTHS = (
    ((4, True), (0, True), (9, False), (1, False), (0, False), (2, True),
     (7, False), (3, True), (0, False), (5, False), (8, True), (6, False)),
    (13, 1, 60, 5, 22, 9),
    11,
)
ONE_DROP = (((0, False), (0, True), (1, False)), (5, 1), 3)
NO_POT = (((6, True), (1, True), (0, True)), (2, 3, 1), 0)
GREAT_POT = (((2, True), (3, False)), (1, 2), 50)
HILLS = (ONE_DAY, THREE_DAYS, DRY_OPEN_DAYS, MONTHS, ONE_DROP, NO_POT, GREAT_POT)

FAR = 10 ** 40
TRILLION = 10 ** 12
# Something is lost at one number of a year alone.
SELDOM = (((TRILLION, True),) + ((TRILLION - 5, True),) * 11, (999999999989,), TRILLION - 2)
SELDOM_OF_SIX = (SELDOM[0], (999999999989, TRILLION - 100, TRILLION - 7, 5, 3, 1), TRILLION - 2)
# Drops and needs are numbers of Fibonacci's.
GOLDEN = (((591286729879, True),) * 12, (365435296162,) * 5 + (225851433717,), 591286729877)
OFTEN = (
    tuple((TRILLION - past * past * 10 ** 9, True) for past in range(12)),
    tuple(TRILLION - past * 10 ** 11 - 1 for past in range(6)),
    10 ** 6,
)
# Losses go through all of its ants and stretches.
ALL_MARKS = (
    tuple((drops, True) for drops in (
        661747376129, 914520023173, 530977666574, 542512993991, 927454108818, 798558704303,
        734976404531, 649174567139, 760671928601, 742918923853, 854186917069, 841791758469)),
    (89784219394, 376088794522, 958234365876, 250396763514, 50594182045, 125574393421),
    1000,
)
SOME_SHUT = (
    ((TRILLION, True), (0, True), (TRILLION - 6, False), (TRILLION, True)) * 3,
    (6 * 10 ** 11 - 11, 5, TRILLION - 8, TRILLION - 2 ** 20, 1, TRILLION),
    TRILLION + 10 ** 11,
)
# These spare, with commons of 3 * 10 ** 12: but for some beginnings of the second nothing is ever lost.
GREAT_CLASSES = (
    ((TRILLION, True),) * 12, (TRILLION, TRILLION - 3, 1, 2, TRILLION // 2, TRILLION // 2), TRILLION - 10 ** 6,
)
HALVES = (((TRILLION, True),) * 12, (TRILLION // 2,) * 6, TRILLION - 10)
NO_STRETCH = (((TRILLION, True), (TRILLION, False), (3, False)) * 4, (TRILLION, 7, TRILLION - 1), 3 * TRILLION)
GREAT_SPILLING = (SELDOM, SELDOM_OF_SIX, GOLDEN, OFTEN, ALL_MARKS, SOME_SHUT)
GREAT_SPARING = (GREAT_CLASSES, HALVES, NO_STRETCH)
GREAT = GREAT_SPILLING + GREAT_SPARING


def small_years(days):
    """All years of so many days with few drops."""
    day_kinds = list(itertools.product((0, 1, 3), (True, False)))
    years = itertools.product(day_kinds, repeat=days)
    return [year for year in years if sum(day[0] for day in year) and any(day[1] for day in year)]


def small_hills():
    """Hills of all small years, with each of some rings and each of some pots.

    Each year has twelve: what leaves some of them out goes on by a number that has no part in 12.
    """
    years = [year for days in (1, 2, 3) for year in small_years(days)]
    rings = ((1,), (2, 5), (7, 1), (3, 3, 1))
    return list(itertools.product(years, rings, (0, 1, 4)))


def is_open(hill, day):
    return hill[0][day % len(hill[0])][1]


def drops_of(hill, day):
    return hill[0][day % len(hill[0])][0]


def plain_given_by(hill, day):
    given = 0
    for at in range(day + 1):
        given += drops_of(hill, at)
    return given


def plain_open_from(hill, day):
    while not is_open(hill, day):
        day += 1
    return day


def plain_day_of(hill, drops):
    day = 0
    given = drops_of(hill, 0)
    while given < drops or not is_open(hill, day):
        day += 1
        given += drops_of(hill, day)
    return day


def plain_turn(hill, state):
    """The ant sits down and waits, drop by drop, evening by evening."""
    day, ant, pot = state
    need = hill[1][ant]
    while pot < need or not is_open(hill, day):
        day += 1
        for _ in range(drops_of(hill, day)):
            pot += 1
    pot -= need
    lost = 0
    while pot > hill[2]:
        pot -= 1
        lost += 1
    ant = 0 if ant == len(hill[1]) - 1 else ant + 1
    return (day, ant, pot), lost


def plain_turns(hill, state, many):
    told = []
    for _ in range(many):
        told.append(plain_turn(hill, state))
        state = told[-1][0]
    return told


def states_of(hill, days):
    """All STATEs of the hill on the open ones of so many days."""
    return [
        (day, ant, pot)
        for day in range(days) if is_open(hill, day)
        for ant in range(len(hill[1]))
        for pot in range(hill[2] + 1)
    ]


def with_lists(thing):
    """The thing in every way in which some of its tuples are lists."""
    if not isinstance(thing, tuple):
        return [thing]
    parts = [list(way) for way in itertools.product(*[with_lists(part) for part in thing])]
    return [kind(way) for way in parts for kind in (tuple, list)]


def all_lists(thing):
    """The thing with a list for each of its tuples."""
    if isinstance(thing, tuple):
        return [all_lists(part) for part in thing]
    return thing


def kinds(thing):
    """The thing written out: unlike ==, this tells True from 1 and a list from a tuple."""
    return repr(thing)


def plain_year(hill):
    return plain_given_by(hill, len(hill[0]) - 1)


def plain_line(hill, state):
    return plain_given_by(hill, state[0]) - state[2]


def plain_lost_at(hill, number):
    """By the first open evening with so much given; years ahead of day 0 are as those behind it."""
    around = plain_year(hill)
    alike = number
    while alike < 1:
        alike += around
    return max(0, plain_given_by(hill, plain_day_of(hill, alike)) - hill[2] - alike)


def plain_losses_of_year(hill):
    """What is lost at each number of a year."""
    return [plain_lost_at(hill, number) for number in range(plain_year(hill))]


def plain_led(hill, ant, line, lost):
    """Led by what is lost at each number of a year."""
    number = line + hill[1][ant]
    return number + lost[number % len(lost)]


def plain_way(hill, state):
    """The rows (STATE, lost) of a STATE and behind its turns, till ant and line around the year come again.

    Told with the rows is the number of the one that the last one is like.
    """
    around = plain_year(hill)
    rows = [(state, 0)]
    seen = {}
    while True:
        last = rows[-1][0]
        like = (last[1], plain_line(hill, last) % around)
        if like in seen:
            return rows, seen[like]
        seen[like] = len(rows) - 1
        rows.append(plain_turn(hill, last))


def some_states(hill):
    """A few STATEs of a hill: with each ant, with a pot that is bare, full, between."""
    days = [day for day in range(2 * len(hill[0])) if is_open(hill, day)]
    pots = sorted({0, hill[2] // 2, hill[2]})
    return [
        (days[ant % len(days)], ant, pot) for ant in range(len(hill[1])) for pot in pots
    ] + [(days[-1], 0, 0)]


def some_hills():
    """The named hills and some of the small ones, of each ring and each pot."""
    return HILLS + tuple(small_hills()[::13])


def lists_in(thing):
    """All lists in the thing, at any depth."""
    if not isinstance(thing, (list, tuple)):
        return []
    own = [thing] if isinstance(thing, list) else []
    return own + [found for part in thing for found in lists_in(part)]


def spoil(thing):
    """Changes each list in the thing."""
    for found in lists_in(thing):
        found.reverse()
        found.append("spoilt")


def check_asking(case, ask, names, handed, other):
    """Asked by places and by names, with lists for tuples, ask tells the same each time.

    Nothing handed in is changed, told lists are the asker's own, and nothing is kept: the hill is
    then made the other one in place.
    """
    told = kinds(ask(*handed))
    for way in itertools.product(*[with_lists(part) for part in handed]):
        before = kinds(way)
        by_place = ask(*way)
        by_name = ask(**dict(reversed(list(zip(names, way)))))
        case.assertEqual((kinds(by_place), kinds(by_name), kinds(way)), (told, told, before))
        same = [id(found) for thing in (by_place, by_name, way) for found in lists_in(thing)]
        case.assertEqual(len(same), len(set(same)), (ask, way))
        spoil(by_place)
        case.assertEqual((kinds(by_name), kinds(ask(*way)), kinds(way)), (told, told, before))
    hill = all_lists(handed[0])
    kept = ask(hill, *handed[1:])
    hill[:] = all_lists(other)
    case.assertEqual(kinds(kept), told)
    case.assertEqual(kinds(ask(hill, *handed[1:])), kinds(ask(other, *handed[1:])))
    case.assertNotEqual(kinds(ask(other, *handed[1:])), told, "the other hill tells the same")


def plain_spares(hill, ant, kind, around, lost):
    """Whether a class spares: each line of a year that is of it goes on losing nothing, till it comes round."""
    for line in range(kind, len(lost), around):
        at, next_ant, seen = line, ant, set()
        while (at, next_ant) not in seen:
            seen.add((at, next_ant))
            at = (at + hill[1][next_ant]) % len(lost)
            if lost[at]:
                return False
            next_ant = (next_ant + 1) % len(hill[1])
    return True


def plain_common(hill):
    year, ring = plain_year(hill), sum(hill[1])
    return max(many for many in range(1, min(year, ring) + 1) if year % many == 0 and ring % many == 0)


def plain_classes(hill, ant):
    """All classes that spare with that ant next, one by one."""
    around, lost = plain_common(hill), plain_losses_of_year(hill)
    return [kind for kind in range(around) if plain_spares(hill, ant, kind, around, lost)]


def inside(begin, step, around, low, high, many):
    return low <= (begin + many * step) % around <= high


def floors(many, around, step, begin):
    """The sum, over n from 0 below many, of how many whole arounds begin and n steps are; step, begin any."""
    total = 0
    while many > 0:
        total += many * (many - 1) // 2 * (step // around) + many * (begin // around)
        step, begin = step % around, begin % around
        top = step * many + begin
        if top < around:
            break
        many, begin, around, step = top // around, top % around, step, around
    return total


def how_many(begin, step, around, low, high, many):
    """Of how many n from 0 below many begin and n steps are in the window, by counting floors."""
    return floors(many, around, step, begin - low) - floors(many, around, step, begin - high - 1)


def check_first_loss(case, hill, ant, line, turn):
    """In that turn something is lost, in none ahead of it; of turn None in none at all."""
    ants, around, step = len(hill[1]), total_of(hill, len(hill[0]) - 1), sum(hill[1])
    number = line
    for past in range(ants):
        number += hill[1][(ant + past) % ants]
        # So many rounds come ahead of the turn in which this ant's turn is ahead of it, too.
        rounds = around if turn is None else max(0, -(-(turn - 1 - past) // ants))
        for day in range(len(hill[0])):
            if is_open(hill, day):
                low = total_of(hill, day) + 1
                high = next_total(hill, day) - 1 - hill[2]
                if low <= high:
                    hits = how_many(number - low, step, around, 0, high - low, rounds)
                    case.assertEqual(hits, 0, (hill, ant, line, turn))
        if turn is not None and (turn - 1 - past) % ants == 0:
            at = number + (turn - 1) // ants * step
    if turn is not None:
        case.assertGreater(lost_there(hill, at), 0, (hill, ant, line, turn))


def total_of(hill, day):
    years, rest = divmod(day, len(hill[0]))
    drops = [part[0] for part in hill[0]]
    return years * sum(drops) + sum(drops[:rest + 1])


def next_total(hill, day):
    """By the next open evening that brings more, at most a year on."""
    ahead = total_of(hill, day)
    while total_of(hill, day) == ahead or not is_open(hill, day):
        day += 1
    return total_of(hill, day)


def lost_there(hill, number):
    """As plain_lost_at, of great drops, too: whole years and days are taken at once."""
    around = total_of(hill, len(hill[0]) - 1)
    alike = number % around + around
    day = 0
    while total_of(hill, day) < alike or not is_open(hill, day):
        day += 1
    return max(0, total_of(hill, day) - hill[2] - alike)
