"""Lists of moments."""


def how_many_until(moments, moment):
    """How many of some moments, in ascending order, are not later than a moment."""
    low = 0
    high = len(moments)
    if high > 0 and moments[-1] <= moment:
        return high
    while low < high:
        middle = (low + high) // 2
        if moments[middle] <= moment:
            low = middle + 1
        else:
            high = middle
    return low
