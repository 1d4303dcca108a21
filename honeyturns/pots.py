"""Pots: how great a pot wants to be."""

from honeyturns.hills import given_by, ring_needs, year_drops
from honeyturns.lines import given_next
from honeyturns.rounds import pace
from honeyturns.sparing import spares
from honeyturns.ways import least_where


def with_pot(hill, most):
    """The HILL with a pot that holds so much."""
    year = tuple([(drops, is_open) for drops, is_open in hill[0]])
    return year, tuple(hill[1]), most


def enough(hill):
    """The least pot with which nothing is ever lost, from whichever line."""
    most = 0
    for day in range(len(hill[0])):
        if hill[0][day][1]:
            given = given_by(hill, day)
            # The drop that the ant waits for is none of what the pot is to hold.
            most = max(most, given_next(hill, given + 1) - given - 1)
    return most


def least_sparing(hill):
    """The least pot with which the hill spares."""
    # Of greater pots stretches are parts of those of smaller ones.
    def is_sparing(most):
        return spares(with_pot(hill, most))

    return least_where(is_sparing, enough(hill))


def least_for(hill, rounds, years):
    """The least pot with which the hill goes at that pace or quicker; None where none does."""
    # Nothing goes quicker than where nothing is lost.
    if rounds * ring_needs(hill) > years * year_drops(hill):
        return None

    def is_quick(most):
        own_rounds, own_years = pace(with_pot(hill, most))
        return own_rounds * years >= rounds * own_years

    return least_where(is_quick, least_sparing(hill))
