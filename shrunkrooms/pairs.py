"""Pairs of lists: positions at which the fars and the nears are free, and cuts that show that there are no more."""

from shrunkrooms.checks import is_lot
from shrunkrooms.lists import as_rows
from shrunkrooms.makers import want_pairs
from shrunkrooms.wholes import rank_of, whole


def common_lot(fars, nears):
    """Positions at which the fars are free, and the nears too, as many as can be, rising."""
    want_pairs(fars, nears)
    lot, _ = _most(_wholes(fars), _wholes(nears))
    return lot


def cut_lot(fars, nears):
    """Positions for which the fars' rank there and the nears' rank elsewhere are as little as can be, rising."""
    want_pairs(fars, nears)
    _, ahead = _most(_wholes(fars), _wholes(nears))
    return [at for at in range(len(fars)) if at not in ahead]


def is_common_lot(fars, nears, value):
    """Whether the value is a common lot, in any sequence."""
    want_pairs(fars, nears)
    if not is_lot(value, len(fars)):
        return False
    if not _are_free(_wholes(fars), value) or not _are_free(_wholes(nears), value):
        return False
    return len(value) == len(common_lot(fars, nears))


def is_cut_lot(fars, nears, value):
    """Whether the value is a cut lot, in any sequence."""
    want_pairs(fars, nears)
    if not is_lot(value, len(fars)):
        return False
    others = [at for at in range(len(fars)) if at not in value]
    both = _rank_at(_wholes(fars), value) + _rank_at(_wholes(nears), others)
    return both == len(common_lot(fars, nears))


def _most(fars, nears):
    """A common lot, and the positions that exchanges reach from it."""
    lot = []
    while True:
        ahead = _reached(fars, nears, lot)
        ends = [at for at in ahead if at not in lot and _are_free(nears, [*lot, at])]
        # Where no exchange leads to one more, what is not reached is a cut of just as many (Edmonds).
        if len(ends) == 0:
            return lot, ahead
        lot = _exchanged(lot, ahead, ends[0])


def _reached(fars, nears, lot):
    """The positions that exchanges reach, the nearest first, each with the one ahead of it on a shortest way."""
    ahead = {at: None for at in range(len(fars)) if at not in lot and _are_free(fars, [*lot, at])}
    border = list(ahead)
    while len(border) > 0:
        further = {}
        for at in border:
            for other in _neighbours(fars, nears, lot, at):
                if other not in ahead and other not in further:
                    further[other] = at
        ahead = {**ahead, **further}
        border = list(further)
    return ahead


def _neighbours(fars, nears, lot, at):
    """The positions that may be exchanged with this one, by the nears if it comes into the lot, else by the fars."""
    if at not in lot:
        return [other for other in lot if _are_free(nears, _instead(lot, other, at))]
    outside = [other for other in range(len(fars)) if other not in lot]
    return [other for other in outside if _are_free(fars, _instead(lot, at, other))]


def _instead(lot, old, new):
    """The lot with the new position in the place of the old one."""
    return [new if at == old else at for at in lot]


def _exchanged(lot, ahead, end):
    """The lot with all positions on the way to this end put in or taken out."""
    way, step = [], end
    while step is not None:
        way.append(step)
        step = ahead[step]
    return sorted([at for at in lot if at not in way] + [at for at in way if at not in lot])


def _wholes(lists):
    """Rows of integers in the proportions of the lists."""
    return [whole(row) for row in as_rows(lists)]


def _are_free(rows, lot):
    """Whether none of the rows at these positions is made of the others."""
    return _rank_at(rows, lot) == len(lot)


def _rank_at(rows, lot):
    """The rank of the rows at these positions."""
    return rank_of([rows[at] for at in lot])
