"""Lines: the line of a STATE is what was given by its day, less its pot; it's all there is to remember."""

from honeyturns.hills import day_of, given_by, ring_needs, year_drops


def line_of(hill, state):
    """The line of the STATE."""
    return given_by(hill, state[0]) - state[2]


def given_next(hill, number):
    """What is given by the first open evening by which so many drops, 1 at least, were given."""
    return given_by(hill, day_of(hill, number))


def stretches(hill):
    """The rising list of the stretches, pairs (low, high), of the numbers at which something is lost."""
    year, most, around = hill[0], hill[2], year_drops(hill)
    found = []
    for day in range(len(year)):
        if year[day][1]:
            low = given_by(hill, day) + 1
            wide = given_next(hill, low) - 1 - most - low
            if wide >= 0:
                found.append((low % around, low % around + wide))
    # Open evenings that bring no more tell the stretch of the evening before them again.
    return sorted(set(found))


def lost_at(hill, number):
    """How much is lost at that number, 0 where it's in no stretch."""
    around = year_drops(hill)
    # One year on from the first, as the vine gave nothing by the evenings ahead of day 0.
    alike = number % around + around
    return max(0, given_next(hill, alike) - hill[2] - alike)


def needed(hill, ant, many):
    """How much so many ants need together, one behind the other in the ring from that one on."""
    needs = hill[1]
    rounds, rest = divmod(many, len(needs))
    return rounds * ring_needs(hill) + sum([needs[(ant + past) % len(needs)] for past in range(rest)])


def led(hill, ant, line):
    """The line behind the ant's turn from any line."""
    number = line + hill[1][ant]
    return number + lost_at(hill, number)
