"""Tables that lead exactly the tight rooms of a full team into themselves, and rooms that they keep.

Rooms of size 1 are kept if each table multiplies their list by a number; what is of one place less than all is kept
exactly if the upright tables keep its level room.
"""

from shrunkrooms.helpers import crossed
from shrunkrooms.lacks import free_helpers
from shrunkrooms.lists import as_rows, multiplied, turned, unit_rows
from shrunkrooms.ratios import Ratio
from shrunkrooms.roots import whole_roots
from shrunkrooms.spans import level_steps, span_steps
from shrunkrooms.tables import undone
from shrunkrooms.wholes import reduced, whole


def kept_line(team):
    """A room of size 1 that the keepers of a full team keep, told, or None."""
    return _common_line(_keepers(team), team.wide)


def kept_plane(team):
    """A room of one place less than all that the keepers of a full team keep, told, or None."""
    line = _common_line([turned(table) for table in _keepers(team)], team.wide)
    return None if line is None else level_steps(line, team.wide)


def _keepers(team):
    """Tables of integers, as few as can be, that make all keepers of a full team."""
    helpers = free_helpers(team)
    many, wide = len(helpers[0]), team.wide
    back = undone(crossed(team, helpers))
    squares = [[row[a::many] for row in back[c::many]] for c in range(many) for a in range(many)]
    keepers = [multiplied(square, table) for square in squares for table in team.tables()]
    flat = reduced([whole([number for row in table for number in row]) for table in keepers])
    return [[row[at:at + wide] for at in range(0, wide * wide, wide)] for row in list(flat.values())]


def _common_line(tables, wide):
    """A room of size 1, told, whose list each of the tables multiplies by a number, or None."""
    # Each room is told by the rows that its lists are level to; at first there is only all.
    rooms = [[]]
    for table in tables:
        rooms = [rows for known in rooms for rows in _split(known, table, wide)]
    if len(rooms) == 0:
        return None
    return level_steps(rooms[0], wide)[:1]


def _split(known, table, wide):
    """Of a room, told by rows that it is level to, the parts whose lists the table multiplies by one number each."""
    parts = [span_steps(known + _less(table, factor)) for factor in whole_roots(_own_polynomial(table))]
    return [rows for rows in parts if len(rows) < wide]


def _less(table, factor):
    """The table less the factor on its middle line, as Ratios."""
    return [[Ratio(number - factor * int(at == place)) for place, number in enumerate(row)]
            for at, row in enumerate(table)]


def _own_polynomial(table):
    """The monic polynomial that is 0 at the factors by which the table multiplies some list."""
    wide = len(table)
    weights, rest = [1], unit_rows(wide)
    # Each weight comes from the middle line of the table times what is left of its polynomial (Faddeev, LeVerrier).
    for size in range(1, wide + 1):
        rest = multiplied(as_rows(table), rest)
        weight = -sum([rest[place][place].top for place in range(wide)]) // size
        weights.append(weight)
        rest = [[number + weight * int(at == place) for place, number in enumerate(row)] for at, row in enumerate(rest)]
    return weights
