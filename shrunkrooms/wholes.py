"""Rows of integers that stand for all their multiples, and what they make.

Elimination keeps each row without a common part: so its numbers stay as small as they can be.
"""

from math import gcd, lcm

# Some great prime: which one is of no matter, as a rank modulo it is only taken where it is a full one.
PRIME = 2305843009213693951


def whole(row):
    """The integers without a common part in the proportions of these Ratios."""
    bottom = 1
    for number in row:
        bottom = lcm(bottom, number.bottom)
    integers = [number.top * (bottom // number.bottom) for number in row]
    return divided(integers, common_part(integers))


def common_part(row):
    """The greatest divisor of all integers of the row, 0 of noughts."""
    common = 0
    for number in row:
        common = gcd(common, number)
        if common == 1:
            return 1
    return common


def divided(row, common):
    """The row divided by a common part of it."""
    if common <= 1:
        return row
    return [number // common for number in row]


def cleared(row, known, head):
    """The row less so much of a known one that it has 0 at the known one's head, without a common part.

    It comes with two integers: the part that was taken out, and how often the row itself was taken.
    """
    part = gcd(row[head], known[head])
    often, less = known[head] // part, row[head] // part
    rest = [often * number - less * other for number, other in zip(row, known)]
    common = common_part(rest)
    return divided(rest, common), common, often


def cleared_modulo(row, known, head):
    """A row modulo the prime that has 0 at the known one's head."""
    often, less = known[head], row[head]
    return [(often * number - less * other) % PRIME for number, other in zip(row, known)]


def rank_modulo(rows):
    """The rank modulo the prime: at most the rank."""
    known = {}
    for row in rows:
        rest = [number % PRIME for number in row]
        for place in range(len(row)):
            if rest[place] != 0 and place in known:
                rest = cleared_modulo(rest, known[place], place)
            elif rest[place] != 0:
                known[place] = rest
                break
    return len(known)


def settled(row, known):
    """What is left of the row when known rows, by their heads, are taken from it, and its head.

    The head is None if nothing is left.
    """
    rest = row
    for place in range(len(row)):
        if rest[place] != 0 and place in known:
            rest, _, _ = cleared(rest, known[place], place)
        elif rest[place] != 0:
            return place, rest
    return None, rest


def stepped(rows):
    """Rows with unlike heads that make what these rows make, by their heads."""
    known = {}
    for row in rows:
        head, rest = settled(row, known)
        if head is not None:
            known[head] = rest
    return known


def rank_of(rows):
    """How many rows of steps the rows have."""
    busy = [row for row in rows if any(row)]
    if len(busy) == 0:
        return 0
    places = [place for place in range(len(busy[0])) if any([row[place] for row in busy])]
    # A rank modulo the prime that can't be greater is sure, and found with far smaller numbers.
    if rank_modulo(busy) == min(len(busy), len(places)):
        return min(len(busy), len(places))
    return len(stepped(busy))


def reduced(rows):
    """The rows of steps, as integers, by their rising heads."""
    if len(rows) == 0:
        return {}
    wide = len(rows[0])
    if len(rows) >= wide and rank_modulo(rows) == wide:
        return {one: [int(place == one) for place in range(wide)] for one in range(wide)}
    known = stepped(rows)
    done = {}
    for head in reversed(sorted(known)):
        rest = known[head]
        for later in done:
            if rest[later] != 0:
                rest, _, _ = cleared(rest, done[later], later)
        done[head] = rest
    return {place: done[place] for place in sorted(done)}
