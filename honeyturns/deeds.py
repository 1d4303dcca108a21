"""Deeds: what each deed of a vine makes of its hill and STATE.

Each tells a triple (hill, STATE, lost) and changes nothing that it is handed; the hill is made of
tuples. A deed that can't be done is refused.
"""

from honeyturns.errors import Already, Barren, Dry, Last, NoAnt, NoDay, Today
from honeyturns.far import gone_far
from honeyturns.pots import with_pot


def gone_on(hill, state, many):
    """Behind so many turns."""
    behind, lost = gone_far(hill, state, many)
    return hill, behind, lost


def held_at_most(hill, state, drops):
    """With so many drops in the pot, but for those that it doesn't hold."""
    day, ant, _ = state
    kept = min(drops, hill[2])
    return hill, (day, ant, kept), drops - kept


def poured(hill, state, drops):
    """With so many drops more in the pot."""
    return held_at_most(hill, state, state[2] + drops)


def dipped(hill, state, drops):
    """With so many drops out of the pot."""
    day, ant, pot = state
    if pot < drops:
        raise Dry(pot)
    return hill, (day, ant, pot - drops), 0


def potted(hill, state, most):
    """With a pot of such a size."""
    return held_at_most(with_pot(hill, most), state, state[2])


def with_day(hill, day, drops, is_open):
    """The hill with that day in the year's day's place."""
    year, needs, most = hill
    return year[:day] + ((drops, is_open),) + year[day + 1:], needs, most


def check_day(hill, day):
    """Refuses a day that the year doesn't have."""
    if not 0 <= day < len(hill[0]):
        raise NoDay(day)


def weathered(hill, state, day, drops):
    """With so many drops from the year's day."""
    check_day(hill, day)
    changed = with_day(hill, day, drops, hill[0][day][1])
    if not any([part[0] > 0 for part in changed[0]]):
        raise Barren()
    return changed, state, 0


def check_not_already(hill, day, is_open):
    """Refuses a day that the year doesn't have, and one that's so already."""
    check_day(hill, day)
    if hill[0][day][1] == is_open:
        raise Already(day)


def unlocked(hill, state, day):
    """With the year's day an open one."""
    check_not_already(hill, day, True)
    return with_day(hill, day, hill[0][day][0], True), state, 0


def locked(hill, state, day):
    """With the year's day a shut one; the STATE keeps its evening, so an open day is left."""
    check_not_already(hill, day, False)
    if state[0] % len(hill[0]) == day:
        raise Today(day)
    return with_day(hill, day, hill[0][day][0], False), state, 0


def check_ant(hill, ant):
    """Refuses an ant that the hill doesn't have."""
    if not 0 <= ant < len(hill[1]):
        raise NoAnt(ant)


def with_needs(hill, needs, state, ant):
    """The hill with such needs, that ant's turn next."""
    return (hill[0], needs, hill[2]), (state[0], ant, state[2]), 0


def needing(hill, state, ant, many):
    """With an ant that needs so many."""
    check_ant(hill, ant)
    needs = hill[1]
    return with_needs(hill, needs[:ant] + (many,) + needs[ant + 1:], state, state[1])


def adopted(hill, state, ant, many):
    """With an ant more at that place, that needs so many; whose turn is next stays so."""
    needs, own = hill[1], state[1]
    if not 0 <= ant <= len(needs):
        raise NoAnt(ant)
    if ant <= own:
        own += 1
    return with_needs(hill, needs[:ant] + (many,) + needs[ant:], state, own)


def parted(hill, state, ant):
    """Without that ant; where it was next the one behind it is."""
    check_ant(hill, ant)
    needs, own = hill[1], state[1]
    if len(needs) == 1:
        raise Last()
    if ant < own:
        own -= 1
    return with_needs(hill, needs[:ant] + needs[ant + 1:], state, own % (len(needs) - 1))
