"""Integers at which a polynomial of integers is 0, found by where it is above 0 alone.

A polynomial is a list of integers, the one at the highest power first; that one is 1 where it says monic.
"""


def whole_roots(weights):
    """The integers at which a monic polynomial is 0, rising."""
    # Further out the highest power outweighs all others.
    bound = 1 + max([abs(weight) for weight in weights])
    return [place for place in _passes(weights, bound) if _worth(weights, place) == 0]


def _worth(weights, place):
    """What the polynomial is at a place."""
    total = 0
    for weight in weights:
        total = total * place + weight
    return total


def _steepness(weights):
    """The polynomial that tells how fast this one rises."""
    power = len(weights) - 1
    return [weight * (power - at) for at, weight in enumerate(weights[:-1])]


def _passes(weights, bound):
    """Rising integers from -bound to bound; where two of them are no neighbours the polynomial stays above 0, or not.

    Among them are all integers there at which the polynomial is 0.
    """
    if len(weights) == 1:
        return [-bound, bound]
    # Between these it only rises or only falls, so it passes 0 at most once.
    stops = _passes(_steepness(weights), bound)
    found = list(stops)
    for low, high in zip(stops, stops[1:]):
        found.extend(_passed_between(weights, low, high))
    return sorted(set(found))


def _passed_between(weights, low, high):
    """Both neighbours between which the polynomial comes to be above 0, or ends to be, if there are such."""
    above = _worth(weights, low) > 0
    if (_worth(weights, high) > 0) == above:
        return []
    while high - low > 1:
        middle = (low + high) // 2
        if (_worth(weights, middle) > 0) == above:
            low = middle
        else:
            high = middle
    return [low, high]
