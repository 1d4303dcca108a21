"""Houses: a HOUSE is (around, needs, flats), how turns together lead all lines.

Flats are a rising list of triples (low, high, to): all lines from low to high are led to to, those
whole arounds more or less as many more or less. A line in no flat is led to needs more.
"""

from honeyturns.errors import Unlike
from honeyturns.hills import year_drops
from honeyturns.lines import stretches
from honeyturns.ways import least_where


def flats_below(flats, around, part, number):
    """The pair (years, many): flats of so many whole arounds more, the first many of them, begin no later.

    Part 0 asks of where flats begin, part 2 of where they lead to: many is from 1, all the flats of
    fewer arounds begin no later, too. There's a flat at least.
    """
    years = (number - flats[0][part]) // around

    def is_later(place):
        return flats[place][part] + years * around > number

    return years, least_where(is_later, len(flats))


def flat_end(house, line):
    """What the flat that the line is in leads it to; None where it's in none."""
    around, _, flats = house
    if not flats:
        return None
    years, many = flats_below(flats, around, 0, line)
    _, high, to = flats[many - 1]
    return to + years * around if line <= high + years * around else None


def led_by(house, line):
    """The line that the house's turns lead to from any line."""
    end = flat_end(house, line)
    return line + house[1] if end is None else end


def latest_led(house, line):
    """The greatest line that the house's turns lead to no more than the line."""
    around, needs, flats = house
    if not flats:
        return line - needs
    years, many = flats_below(flats, around, 2, line)
    # All lines from the next flat on are led beyond.
    beyond = flats[many][0] if many < len(flats) else flats[0][0] + around
    return min(line - needs, beyond + years * around - 1)


def with_low_around(around, low, high, to):
    """The flat by whole arounds so that low is from 0 to around less 1."""
    more = low % around - low
    return low + more, high + more, to + more


def joined(one, other):
    """The house of one's turns and then other's; refused with Unlike() of unlike arounds."""
    around, needs, flats = one
    if around != other[0]:
        raise Unlike()
    # A flat of one that leads into none of other's goes on alone, else it's a part of that one's.
    told = [(low, high, to + other[1]) for low, high, to in flats if flat_end(other, to) is None]
    for low, high, to in other[2]:
        begin, end = latest_led(one, low - 1) + 1, latest_led(one, high)
        # One may lead no line into a flat of other's. Where it leads one line alone there, that's led
        # to more than needs more: else the line ahead of it would be led there, too, or the flat is
        # a line by itself.
        if begin <= end:
            told.append(with_low_around(around, begin, end, to))
    return around, needs + other[1], sorted(told)


def turn_house(hill, ant):
    """The house of the ant's turn alone."""
    around, need = year_drops(hill), hill[1][ant]
    # The number behind a stretch is led to itself, where the stretch's are led, too.
    flats = [with_low_around(around, low - need, high + 1 - need, high + 1) for low, high in stretches(hill)]
    return around, need, sorted(flats)


def house(hill, ant, many):
    """The house of so many turns from that ant's on."""
    ants = len(hill[1])
    alone = [turn_house(hill, at) for at in range(ants)]
    told = (year_drops(hill), 0, [])
    for past in range(many):
        told = joined(told, alone[(ant + past) % ants])
    return told
