"""Windows: which of the steps around a ring lead into a lot of numbers one behind the other."""


def gone_back(rings, found):
    """The least pair (steps, place) of the first ring, found in the ring behind the last one."""
    for step, around, windows in reversed(rings):
        # More times around are more steps: only windows of the fewest may be the first one.
        fewest = min(found)[0]
        ties = [(times, place) for times, place in found if times == fewest]
        found = [(-(-(times * around + windows[place][0]) // step), place) for times, place in ties]
    return min(found)


def least_steps(windows, step, around):
    """The least pair (n, place) such that n steps, whole arounds taken off, lead into the window of that place.

    None where no steps lead into any. The step is from 0 and below around; windows are a list of
    pairs (low, high), each low above 0, high below around.
    """
    rings = []
    # A window that no whole steps lead into ahead of around is narrower than a step: of each time
    # around one number of steps at most leads there, and how many times around is asked of a
    # smaller ring, one step around. So rings shrink as in Euclid's division. Windows that are met
    # ahead of around are met ahead of all others.
    while step > 0:
        places = [place for place, (low, high) in enumerate(windows) if high % step <= high - low]
        if places:
            return gone_back(rings, [(-(-windows[place][0] // step), place) for place in places])
        rings.append((step, around, windows))
        windows = [(-high % step, -low % step) for low, high in windows]
        step, around = around % step, step
    return None


def first_in(begin, step, around, low, high):
    """The least n from 0 of which begin and n steps, whole arounds taken off, are from low to high, or None."""
    # Seen from begin the window is so far ahead; steps alone are to lead there then.
    ahead = (low - begin) % around
    beyond = ahead + high - low
    if ahead == 0 or beyond >= around:
        return 0
    found = least_steps([(ahead, beyond)], step % around, around)
    return None if found is None else found[0]


def last_below(begin, step, around, low, high, many):
    """The greatest n below many of which begin and n steps are in the window so, or None."""
    # Gone back from the last step it's the first one.
    back = first_in(begin + (many - 1) * step, -step, around, low, high)
    if back is None or back >= many:
        return None
    return many - 1 - back
