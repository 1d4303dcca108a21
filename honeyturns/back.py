"""Back: from which lines, with which pots, so many turns are gone by a day."""

from honeyturns.far import open_until
from honeyturns.hills import given_by, year_drops
from honeyturns.lines import stretches


def number_back(places, around, line):
    """The greatest number that is led to no more than the line, by the list of a hill's stretches."""
    for low, high in places:
        past = (line - low) % around
        if past <= high - low:
            # All numbers of a stretch are led beyond it; the one ahead of it is in none.
            return line - past - 1
    return line


def latest_line(hill, ant, many, line):
    """The greatest line from which, that ant next, so many turns lead to no more than the line."""
    needs, places, around = hill[1], stretches(hill), year_drops(hill)
    for past in range(many - 1, -1, -1):
        line = number_back(places, around, line) - needs[(ant + past) % len(needs)]
    return line


def least_pot(hill, day, ant, many, by):
    """The least pot with which, on that day's evening, that ant next, so many turns are gone by by's evening.

    None where none from 0 to most does.
    """
    latest = latest_line(hill, ant, many, given_by(hill, open_until(hill, by)))
    pot = max(0, given_by(hill, day) - latest)
    return pot if pot <= hill[2] else None


def line_bounds(hill, day, evenings):
    """The pairs (above, upto) of the day and of each evening: between which the line is to be, upto included.

    None where one of the evenings is of a shut day.
    """
    given = given_by(hill, day)
    bounds = [(given - hill[2] - 1, given)]
    for evening in evenings:
        if open_until(hill, evening) < evening:
            return None
        # A turn on the evening of the one ahead of it only has to be gone by then: the beginning's
        # own bound, ahead of all lines behind it, changes nothing.
        above = bounds[0][0]
        if evening > day:
            above = given_by(hill, open_until(hill, evening - 1))
        bounds.append((above, given_by(hill, evening)))
        day = evening
    return bounds


def pots_seen(hill, day, ant, evenings):
    """The pair of the least and the greatest pot with which the first turns go on just these evenings.

    None where none from 0 to most does.
    """
    bounds = line_bounds(hill, day, evenings)
    if bounds is None:
        return None
    needs, places, around = hill[1], stretches(hill), year_drops(hill)
    above, upto = bounds[-1]
    for past in range(len(evenings) - 1, -1, -1):
        need = needs[(ant + past) % len(needs)]
        above = max(bounds[past][0], number_back(places, around, above) - need)
        upto = min(bounds[past][1], number_back(places, around, upto) - need)
    if above >= upto:
        return None
    given = given_by(hill, day)
    return given - upto, given - above - 1
