"""Far turns and days, told without going there."""

from honeyturns.hills import given_by
from honeyturns.lines import line_of, needed
from honeyturns.ways import least_where, line_behind, state_behind, way_of


def way_from(hill, state):
    """The way of the lines from the STATE on."""
    return way_of(hill, state[1], line_of(hill, state))


def gone_far(hill, state, many):
    """The pair (STATE, lost) behind so many turns: how much is lost in all of them."""
    day, ant, _ = state
    line = line_behind(hill, way_from(hill, state), many)
    lost = line - line_of(hill, state) - needed(hill, ant, many)
    return state_behind(hill, day, (ant + many) % len(hill[1]), line), lost


def behind(hill, state, many):
    """The STATE behind so many turns."""
    return gone_far(hill, state, many)[0]


def lost_by(hill, state, many):
    """How much is lost in so many turns."""
    return gone_far(hill, state, many)[1]


def open_until(hill, day):
    """The last open day up to that one, it too."""
    year = hill[0]
    while not year[day % len(year)][1]:
        day -= 1
    return day


def gone_by(hill, state, day):
    """How many turns are gone by the evening of the day, which is the STATE's or a later one."""
    given = given_by(hill, open_until(hill, day))
    way = way_from(hill, state)

    # A turn is gone by an open evening just where its line is no more than what was given by then.
    def is_ahead(many):
        return line_behind(hill, way, many) > given

    # Each ant needs a drop at least.
    return least_where(is_ahead, given - line_of(hill, state) + 1) - 1


def lost_until(hill, state, day):
    """How much is lost in the turns that are gone by the evening of the day."""
    return lost_by(hill, state, gone_by(hill, state, day))
