"""Ways: how lines go on from a beginning, loss by loss, till the losses come round.

Between two losses each ant's lines go on by the ring's needs. Behind a loss the line is just behind
a stretch; of ants and stretches there are few, so losses soon come round, however far apart.

A mark is a triple (turn, ant, line): so many turns are gone, that ant is next, that is the line. A
way is a pair (marks, again): the mark of the beginning, turn 0, and the one behind each turn in
which something is lost, to the first that is like an earlier one but for whole years: again is that
one's number. Where no more losses come the marks end with the last one, and again is None.
"""

from honeyturns.hills import day_of, given_by, ring_needs, year_drops
from honeyturns.lines import lost_at, needed, stretches
from honeyturns.windows import least_steps


def loss_turn(hill, places, ant, line):
    """In which turn, counted from 1, something is lost first, that ant next; None where it never is.

    Places is the list of the hill's stretches.
    """
    ants, around = len(hill[1]), year_drops(hill)
    wides = [high - low for low, high in places]
    highs = []
    for first in range(1, ants + 1):
        number = line + needed(hill, ant, first)
        if any([(number - low) % around <= high - low for low, high in places]):
            return first
        # The number is in no stretch, so these are ahead of it and end before it comes again.
        highs.extend([(low - number) % around + high - low for low, high in places])
    found = least_steps(highs, wides * ants, ring_needs(hill) % around, around)
    if found is None:
        return None
    rounds, place = found
    return rounds * ants + place // len(places) + 1


def mark_behind(hill, places, mark):
    """The mark behind the first turn from a mark on in which something is lost; None where it never is."""
    turn, ant, line = mark
    many = loss_turn(hill, places, ant, line)
    if many is None:
        return None
    number = line + needed(hill, ant, many)
    return turn + many, (ant + many) % len(hill[1]), number + lost_at(hill, number)


def way_of(hill, ant, line):
    """The way from the line on, that ant next."""
    around, places = year_drops(hill), stretches(hill)
    marks = []
    numbers = {}
    mark = (0, ant, line)
    while mark is not None:
        marks.append(mark)
        like = (mark[1], mark[2] % around)
        if like in numbers:
            return marks, numbers[like]
        numbers[like] = len(marks) - 1
        mark = mark_behind(hill, places, mark)
    return marks, None


def round_of(way):
    """The pair (turns, drops) by which the marks of a way are more each time they come round."""
    marks, again = way
    return marks[-1][0] - marks[again][0], marks[-1][2] - marks[again][2]


def mark_at(way, number):
    """The mark of that number, as often as they come round; None where there are fewer."""
    marks, again = way
    if number < len(marks):
        return marks[number]
    if again is None:
        return None
    rounds, past = divmod(number - again, len(marks) - 1 - again)
    turns, drops = round_of(way)
    turn, ant, line = marks[again + past]
    return turn + rounds * turns, ant, line + rounds * drops


def line_behind(hill, way, many):
    """The line behind so many turns of the way."""
    marks, again = way
    more = 0
    if again is not None and many > marks[-1][0]:
        turns, drops = round_of(way)
        rounds = (many - marks[again][0]) // turns
        many -= rounds * turns
        more = rounds * drops
    gone = [mark for mark in marks if mark[0] <= many]
    turn, ant, line = gone[-1]
    return line + needed(hill, ant, many - turn) + more


def state_behind(hill, day, ant, line):
    """The STATE of that line, that ant next, when turns were begun on that day."""
    evening = day
    if line > 0:
        evening = max(day, day_of(hill, line))
    return evening, ant, given_by(hill, evening) - line


def least_where(holds, high):
    """The least number from 0 for which holds tells True, as it does from that one to high."""
    low = 0
    while low < high:
        middle = (low + high) // 2
        if holds(middle):
            high = middle
        else:
            low = middle + 1
    return low
