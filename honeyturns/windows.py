"""Windows: which of the steps around a ring lead into a lot of numbers one behind the other."""


def gone_back(rings, wides, found):
    """The least pair (steps, place) of the first ring, of those found in the ring behind the last one."""
    for step, around, highs in reversed(rings):
        # More times around are more steps: only windows of the fewest may be the first one.
        fewest = min(found)[0]
        ties = [(times, place) for times, place in found if times == fewest]
        found = [(-(-(times * around + highs[place] - wides[place]) // step), place) for times, place in ties]
    return min(found)


def least_steps(highs, wides, step, around):
    """The least pair (n, place) such that n steps, whole arounds taken off, lead into the window of that place.

    None where no steps lead into any. The step is from 0 and below around; a window goes from its
    high less its wide to its high, from above 0 to below around.
    """
    rings = []
    # A window that no whole steps lead into ahead of around is narrower than a step: of each time
    # around one number of steps at most leads there, and how many times around is asked of a
    # smaller ring, one step around. So rings shrink as in Euclid's division. Windows that are met
    # ahead of around are met ahead of all others.
    while step > 0:
        rests = [high % step for high in highs]
        places = [place for place, rest in enumerate(rests) if rest <= wides[place]]
        if places:
            found = [(-(-(highs[place] - wides[place]) // step), place) for place in places]
            return gone_back(rings, wides, found)
        rings.append((step, around, highs))
        # In the smaller ring times around go back from a window: where that's more than half of it,
        # they go on by what is left of it, towards the window's other end.
        step, around = around % step, step
        if 2 * step > around:
            step, highs = around - step, rests
        else:
            highs = [around - rest + wide for rest, wide in zip(rests, wides)]
    return None


def first_in(begin, step, around, low, high):
    """The least n from 0 of which begin and n steps, whole arounds taken off, are from low to high, or None."""
    # Seen from begin the window is so far ahead; steps alone are to lead there then.
    ahead = (low - begin) % around
    beyond = ahead + high - low
    if ahead == 0 or beyond >= around:
        return 0
    found = least_steps([beyond], [high - low], step % around, around)
    return None if found is None else found[0]


def last_below(begin, step, around, low, high, many):
    """The greatest n below many of which begin and n steps are in the window so, or None."""
    # Gone back from the last step it's the first one.
    back = first_in(begin + (many - 1) * step, -step, around, low, high)
    if back is None or back >= many:
        return None
    return many - 1 - back
