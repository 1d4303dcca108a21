"""Sparing or spilling: from which classes of lines on nothing is lost any more."""

from math import gcd

from honeyturns.hills import ring_needs, year_drops
from honeyturns.lines import line_of, needed, stretches


def common(hill):
    """The greatest number that divides the year's drops and the ring's needs."""
    return gcd(year_drops(hill), ring_needs(hill))


def unmet(around, arcs):
    """The rising list of pairs (low, high) of the numbers from 0 to around less 1 that no arc meets.

    An arc is a pair (low, high) of any numbers: these and those between, whole arounds more or less.
    """
    parts = []
    for low, high in arcs:
        begin = low % around
        end = begin + high - low
        # An arc that goes over the last number goes on from the first.
        parts.append((begin, end))
        parts.append((begin - around, end - around))
    told = []
    free = 0
    for begin, end in sorted(parts):
        if free < begin:
            told.append((free, begin - 1))
        free = max(free, end + 1)
    if free < around:
        told.append((free, around - 1))
    return told


def sparing(hill, ant):
    """The rising list of pairs (low, high) of the classes that spare with that ant next."""
    ants = len(hill[1])
    # Whole rings and whole years lead from a line to all lines of its class, and nowhere else:
    # each turn of the ring is looked at once.
    sums = [needed(hill, ant, many) for many in range(1, ants + 1)]
    arcs = [(low - total, high - total) for low, high in stretches(hill) for total in sums]
    return unmet(common(hill), arcs)


def spares(hill):
    """Tell whether some class spares."""
    return len(sparing(hill, 0)) > 0


def lost_in_all(hill, state):
    """How much is lost in all turns from the STATE on; None of a hill that spills."""
    pairs = sparing(hill, state[1])
    if not pairs:
        return None
    around = common(hill)
    own = line_of(hill, state) % around
    for low, high in pairs:
        if own <= high:
            return max(0, low - own)
    # The next class that spares is the least one, once around.
    return pairs[0][0] + around - own
