"""Losses: each turn in which something is lost, told without going there."""

from honeyturns.lines import line_of, needed, stretches
from honeyturns.ways import mark_at, mark_behind, state_behind, way_of


def told_loss(hill, day, mark, next_mark):
    """The triple (turn, STATE, lost) of the loss between two marks, when turns were begun on that day."""
    turn, ant, line = next_mark
    lost = line - mark[2] - needed(hill, mark[1], turn - mark[0])
    return turn, state_behind(hill, day, ant, line), lost


def next_loss(hill, state):
    """The triple (turn, STATE, lost) of the first turn in which something is lost; None where there's none."""
    mark = (0, state[1], line_of(hill, state))
    next_mark = mark_behind(hill, stretches(hill), mark)
    if next_mark is None:
        return None
    return told_loss(hill, state[0], mark, next_mark)


def losses(hill, state, many):
    """The list of the first so many, turns counted from the STATE; fewer where no more come."""
    way = way_of(hill, state[1], line_of(hill, state))
    told = []
    mark = mark_at(way, 0)
    for number in range(1, many + 1):
        next_mark = mark_at(way, number)
        if next_mark is None:
            break
        told.append(told_loss(hill, state[0], mark, next_mark))
        mark = next_mark
    return told
