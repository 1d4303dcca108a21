"""Pairs: two beginnings with the same ant next, whose lines are measured by each other."""

from honeyturns.errors import Unlike
from honeyturns.far import way_from
from honeyturns.hills import ring_needs
from honeyturns.lines import led, line_of
from honeyturns.ways import least_where, line_behind


def check_alike(one, other):
    """Refuses two STATEs with unlike ants next."""
    if one[1] != other[1]:
        raise Unlike()


def gaps(hill, one, other, many):
    """The list of how much other's line is more than one's, at first and behind each of so many turns."""
    check_alike(one, other)
    ant, ants = one[1], len(hill[1])
    line, other_line = line_of(hill, one), line_of(hill, other)
    told = [other_line - line]
    for past in range(many):
        line = led(hill, (ant + past) % ants, line)
        other_line = led(hill, (ant + past) % ants, other_line)
        told.append(other_line - line)
    return told


def meeting(hill, one, other):
    """The least number of turns behind which their lines are the same; None where they never are."""
    check_alike(one, other)
    way, other_way = way_from(hill, one), way_from(hill, other)

    def are_one(many):
        return line_behind(hill, way, many) == line_behind(hill, other_way, many)

    # Behind both ways' marks all comes round: what isn't one by then never is.
    late = max(way[0][-1][0], other_way[0][-1][0])
    return least_where(are_one, late) if are_one(late) else None


def rounds_behind(hill, one, other):
    """The least number of rounds of the ring by which one's line is led to other's at least."""
    check_alike(one, other)
    way, ants = way_from(hill, one), len(hill[1])
    line, other_line = line_of(hill, one), line_of(hill, other)

    def is_led_there(rounds):
        return line_behind(hill, way, rounds * ants) >= other_line

    # A round leads a line by the ring's needs at least.
    return least_where(is_led_there, max(0, -(-(other_line - line) // ring_needs(hill))))
