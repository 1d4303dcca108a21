"""Windows: which of the steps around a ring lead into a lot of numbers one behind the other."""


def least_steps(step, around, low, high):
    """The least n of which n steps, whole arounds taken off, are from low to high, or None.

    The step is from 0 and below around, low above 0, high below around.
    """
    rings = []
    # Where no whole steps lead into the window ahead of around, it's narrower than a step: of each
    # time around one number of steps at most leads there, and how many times around is asked of a
    # smaller ring, one step around. So rings shrink as in Euclid's division.
    while step > 0 and high // step * step < low:
        rings.append((step, around, low))
        step, around, low, high = around % step, step, -high % step, -low % step
    if step == 0:
        return None
    many = -(-low // step)
    for step, around, low in reversed(rings):
        many = -(-(many * around + low) // step)
    return many


def first_in(begin, step, around, low, high):
    """The least n from 0 of which begin and n steps, whole arounds taken off, are from low to high, or None."""
    # Seen from begin the window is so far ahead; steps alone are to lead there then.
    ahead = (low - begin) % around
    beyond = ahead + high - low
    if ahead == 0 or beyond >= around:
        return 0
    return least_steps(step % around, around, ahead, beyond)


def last_below(begin, step, around, low, high, many):
    """The greatest n below many of which begin and n steps are in the window so, or None."""
    # Gone back from the last step it's the first one.
    back = first_in(begin + (many - 1) * step, -step, around, low, high)
    if back is None or back >= many:
        return None
    return many - 1 - back
