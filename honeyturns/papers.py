"""Papers: what a small judge sees of whether a hill spares or spills."""

from honeyturns.hills import is_number, is_tuple_of
from honeyturns.lines import needed, stretches
from honeyturns.sparing import common, sparing, unmet


def paper(hill):
    """A paper of the hill: ("spares", class) or ("spills", rows)."""
    pairs = sparing(hill, 0)
    if pairs:
        return "spares", pairs[0][0]
    places = len(stretches(hill))
    # Of a hill that spills all rows together meet each class.
    return "spills", [(ant, place) for ant in range(len(hill[1])) for place in range(places)]


def shows_sparing(hill, thing):
    """Tell whether the thing is a class that spares with ant 0 next."""
    return is_number(thing, 0) and any([low <= thing <= high for low, high in sparing(hill, 0)])


def is_row(thing, ants, places):
    """Tell whether the thing is a pair (ant, place) of so many ants and places."""
    if not is_tuple_of(thing, 2) or not all([is_number(part, 0) for part in thing]):
        return False
    return thing[0] < ants and thing[1] < places


def shows_spilling(hill, thing):
    """Tell whether the thing is a list of pairs (ant, place) that meet each class."""
    places = stretches(hill)
    if not isinstance(thing, list) or not all([is_row(row, len(hill[1]), len(places)) for row in thing]):
        return False
    arcs = []
    for ant, place in thing:
        low, high = places[place]
        total = needed(hill, 0, ant + 1)
        arcs.append((low - total, high - total))
    return len(unmet(common(hill), arcs)) == 0


def shows_paper(hill, thing):
    """Tell whether the thing is a paper of the hill."""
    if not is_tuple_of(thing, 2):
        return False
    if thing[0] == "spares":
        return shows_sparing(hill, thing[1])
    return thing[0] == "spills" and shows_spilling(hill, thing[1])
