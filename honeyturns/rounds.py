"""Rounds: the pace at which a hill goes, and from when on all comes round."""

from honeyturns.hills import ring_needs, year_drops
from honeyturns.lines import line_of
from honeyturns.sparing import common, spares
from honeyturns.ways import least_where, line_behind, round_of, way_of


def pace(hill):
    """The pair (rounds, years) in lowest terms: so many rounds of the ring in so many years, in the long run."""
    if spares(hill):
        whole = common(hill)
        return year_drops(hill) // whole, ring_needs(hill) // whole
    turns, drops = round_of(way_of(hill, 0, 0))
    # No number above 1 divides both. A turn keeps the order of lines: had a part of these rounds led
    # a line beyond that part of the drops, or less far, each part would, and it never came round.
    return turns // len(hill[1]), drops // year_drops(hill)


def round_from(hill, state):
    """The least number of turns behind which, for ever, pace's rounds lead the line by pace's years."""
    rounds, years = pace(hill)
    turns, drops = rounds * len(hill[1]), years * year_drops(hill)
    way = way_of(hill, state[1], line_of(hill, state))

    def comes_round(many):
        return line_behind(hill, way, many + turns) - line_behind(hill, way, many) == drops

    # From the last mark on all comes round, or nothing is lost any more.
    return least_where(comes_round, way[0][-1][0])


def lost_a_round(hill):
    """How much is lost in pace's years when all comes round."""
    rounds, years = pace(hill)
    return years * year_drops(hill) - rounds * ring_needs(hill)
