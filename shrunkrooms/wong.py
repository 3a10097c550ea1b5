"""Wong's row of helpers: far rooms that grow until they stay, and what leads back into them."""

from shrunkrooms.helpers import crossed, cut, sides
from shrunkrooms.lists import as_rows, led, turned
from shrunkrooms.spans import level_steps, made_steps, span_steps
from shrunkrooms.teams import want_far


def back(team, helpers, far):
    """The room of all pieces of the lists that the crossed sum leads into the copies of the far room."""
    table, both = crossed(team, helpers), sides(team, helpers)
    want_far(team, far)
    return _pieces_of_all(_led_there(table, both[0], as_rows(far)), both[1])


def wong(team, helpers):
    """The far rooms from nothing on, each made of the back room of the one ahead, up to the one that stays."""
    return [far for far, _ in _row(team, crossed(team, helpers), sides(team, helpers))]


def stays(team, helpers):
    """Whether the crossed sum makes the copies of the last far room of the row."""
    return stayed(team, helpers) is not None


def stayed(team, helpers):
    """The back room of the last far room of the row; None unless the helpers stay."""
    both = sides(team, helpers)
    row = _row(team, crossed(team, helpers), both)
    _, to_nothing = row[0]
    far, to_far = row[-1]
    # Of the copies so much is made as more lists are led there than to noughts.
    if len(to_far) - len(to_nothing) < both[0] * len(far):
        return None
    return _pieces_of_all(to_far, both[1])


def _row(team, table, both):
    """Wong's row by a crossed sum of helpers of both sides, each far room with the lists led into its copies."""
    tables = team.tables()
    tall, wide = both
    row, far = [], []
    while len(row) == 0 or far != row[-1][0]:
        row.append((far, _led_there(table, tall, far)))
        far = made_steps(tables, _pieces_of_all(row[-1][1], wide))
    return row


def _led_there(table, tall, far):
    """The steps of all lists that a crossed sum of helpers of so many rows leads into the copies of the far room."""
    # A far list lies in the copies exactly if the products of its pieces with the level lists add up to 0.
    level = level_steps(far, len(table) // tall)
    squares = [turned(table[start::tall]) for start in range(tall)]
    return level_steps([led(columns, row) for columns in squares for row in level], len(table[0]))


def _pieces_of_all(rows, wide):
    """The steps of all pieces of the rows."""
    return span_steps([piece for row in rows for piece in cut(row, wide)])
