"""Wong's row of helpers: far rooms that grow until they stay, and what leads back into them."""

from shrunkrooms.helpers import copied, crossed, cut, sides
from shrunkrooms.lists import as_rows, led, turned
from shrunkrooms.spans import are_made, level_steps, made_steps, span_steps
from shrunkrooms.teams import want_far


def back(team, helpers, far):
    """The room of all pieces of the lists that the crossed sum leads into the copies of the far room."""
    table, both = crossed(team, helpers), sides(team, helpers)
    want_far(team, far)
    return _back_room(table, both, as_rows(far))


def wong(team, helpers):
    """The far rooms from nothing on, each made of the back room of the one ahead, up to the one that stays."""
    return _row(team, crossed(team, helpers), sides(team, helpers))


def stays(team, helpers):
    """Whether the crossed sum makes the copies of the last far room of the row."""
    return stayed(team, helpers) is not None


def stayed(team, helpers):
    """The back room of the last far room of the row; None unless the helpers stay."""
    table, both = crossed(team, helpers), sides(team, helpers)
    last = _row(team, table, both)[-1]
    if not are_made(turned(table), copied(last, both[0])):
        return None
    return _back_room(table, both, last)


def _row(team, table, both):
    """Wong's row by a crossed sum of helpers of both sides."""
    tables = team.tables()
    row = [[]]
    while True:
        far = made_steps(tables, _back_room(table, both, row[-1]))
        if far == row[-1]:
            return row
        row.append(far)


def _back_room(table, both, far):
    """The back room of a far room by a crossed sum of helpers of both sides."""
    tall, wide = both
    # A far list lies in the copies exactly if the products of its pieces with the level lists add up to 0.
    level = level_steps(far, len(table) // tall)
    squares = [turned(table[start::tall]) for start in range(tall)]
    led_there = level_steps([led(columns, row) for columns in squares for row in level], len(table[0]))
    return span_steps([piece for row in led_there for piece in cut(row, wide)])
