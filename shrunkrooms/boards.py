"""Boards: rooks that spare one another, and covers of all places."""

from shrunkrooms.checks import are_places, is_list, is_lot, is_place, want_many
from shrunkrooms.errors import InvalidPlaces

MOST = 4
MOST_PLACES = 16


def rooks(tall, wide, places):
    """Places that spare one another, as many as can be, sorted."""
    _want_board(tall, wide, places)
    return _most_rooks(places, tall, [], 0)


def is_rooks(tall, wide, places, value):
    """Whether the value is rooks of the board, in any sequence."""
    _want_board(tall, wide, places)
    if not is_list(value) or not all([is_place(place, tall, wide) and place in places for place in value]):
        return False
    many = len(value)
    if len(set([row for row, _ in value])) < many or len(set([column for _, column in value])) < many:
        return False
    return many == len(rooks(tall, wide, places))


def cover(tall, wide, places):
    """Rows and columns, as few as can be, such that each place is in one of them."""
    _want_board(tall, wide, places)
    covers = [(rows, sorted(set([column for row, column in places if row not in rows]))) for rows in _lots(tall)]
    return min(covers, key=_cover_size)


def is_cover(tall, wide, places, value):
    """Whether the value is a cover of the board, its lists in any sequence."""
    _want_board(tall, wide, places)
    if not isinstance(value, tuple) or len(value) != 2:
        return False
    rows, columns = value
    if not is_lot(rows, tall) or not is_lot(columns, wide):
        return False
    if not all([row in rows or column in columns for row, column in places]):
        return False
    return _cover_size(value) == _cover_size(cover(tall, wide, places))


def _most_rooks(places, tall, taken, row):
    """The rooks taken ahead of this row, and as many more as can be."""
    if row == tall:
        return taken
    found = _most_rooks(places, tall, taken, row + 1)
    columns = [column for _, column in taken]
    for place in places:
        if place[0] == row and place[1] not in columns:
            other = _most_rooks(places, tall, [*taken, place], row + 1)
            found = other if len(other) > len(found) else found
    return found


def _lots(many):
    """All rising lists of counts below so many."""
    found = [[]]
    for count in range(many):
        found = found + [[*lot, count] for lot in found]
    return found


def _cover_size(value):
    """How many rows and columns there are together."""
    return len(value[0]) + len(value[1])


def _want_board(tall, wide, places):
    """Raises InvalidMany with the first side that is out of its bounds, InvalidPlaces unless these are its places."""
    want_many(tall, 1, MOST)
    want_many(wide, 1, MOST)
    if not are_places(places, tall, wide, 1, MOST_PLACES):
        raise InvalidPlaces(places)
