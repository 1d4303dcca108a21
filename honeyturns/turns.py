"""Turns, one by one: a STATE of a hill is (day, ant, pot), on the evening of an open day."""

from honeyturns.hills import day_of, given_by, is_number, is_tuple_of, open_from


def is_state(hill, thing):
    """Tell whether the thing is a STATE of the hill."""
    if not is_tuple_of(thing, 3):
        return False
    day, ant, pot = thing
    if not is_number(day, 0) or not is_number(ant, 0) or not is_number(pot, 0):
        return False
    return open_from(hill, day) == day and ant < len(hill[1]) and pot <= hill[2]


def turn(hill, state):
    """The pair (STATE, lost) behind the turn of the ant that is next."""
    day, ant, pot = state
    needs, most = hill[1], hill[2]
    given = given_by(hill, day)
    evening = day
    # With enough in the pot the ant goes on the state's own evening: several turns may go on one.
    if pot < needs[ant]:
        evening = day_of(hill, given + needs[ant] - pot)
    over = pot + given_by(hill, evening) - given - needs[ant]
    kept = min(over, most)
    return (evening, (ant + 1) % len(needs), kept), over - kept


def turns(hill, state, many):
    """The list of the pairs (STATE, lost) of so many turns, one behind the other."""
    told = []
    for _ in range(many):
        state, lost = turn(hill, state)
        told.append((state, lost))
    return told
