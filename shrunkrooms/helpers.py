"""Helpers of a team: their crossed sums, and copies and pieces of rooms."""

from shrunkrooms.checks import are_tables, is_between, want_many
from shrunkrooms.errors import InvalidHelpers, InvalidMany
from shrunkrooms.lists import as_rows, dot, led
from shrunkrooms.ratios import Ratio
from shrunkrooms.spans import are_made, span_rank, span_steps
from shrunkrooms.steps import MOST, want_grid
from shrunkrooms.teams import made, told_room, want_room, want_team

MOST_SIDE = 24
MOST_COPIES = 15


def is_helpers(team, value):
    """Whether the value is helpers of the team."""
    want_team(team)
    return are_tables(value, team.many, team.many, MOST_SIDE)


def sides(team, helpers):
    """How many rows the helpers have, and how many places."""
    want_helpers(team, helpers)
    return len(helpers[0]), len(helpers[0][0])


def crossed(team, helpers):
    """The crossed sum of the team and the helpers."""
    want_helpers(team, helpers)
    letters, weights = _stacked(team.tables()), _stacked([as_rows(table) for table in helpers])
    return [[dot(letter, weight) for letter in far for weight in row] for far in letters for row in weights]


def crossed_rank(team, helpers):
    """The rank of the crossed sum."""
    return span_rank(crossed(team, helpers))


def copies(team, room, many):
    """The steps of the lists each of whose pieces is made of the room."""
    want_team(team)
    want_room(team, room)
    want_many(many, 1, MOST_COPIES)
    return copied(told_room(team, room), many)


def pieces(grid, many):
    """The steps of all pieces of all rows of the grid."""
    want_grid(grid)
    if not is_between(many, 1, MOST) or (len(grid) > 0 and len(grid[0]) % many != 0):
        raise InvalidMany(many)
    return span_steps([piece for row in as_rows(grid) for piece in cut(row, many)])


def is_kept_small(team, helpers, room):
    """Whether the crossed sum leads the copies of the room into the copies of what is made of it."""
    tall, wide = sides(team, helpers)
    far = made(team, room)
    table = crossed(team, helpers)
    images = [led(table, row) for row in copied(told_room(team, room), wide)]
    return are_made(far, [piece for row in images for piece in cut(row, tall)])


def want_helpers(team, helpers):
    """Raises InvalidTeam unless the team is one, InvalidHelpers unless these are helpers of it."""
    if not is_helpers(team, helpers):
        raise InvalidHelpers(helpers)


def _stacked(tables):
    """The table that has at each place the list of all tables' numbers there."""
    return [[[table[row][place] for table in tables] for place in range(len(tables[0][0]))]
            for row in range(len(tables[0]))]


def copied(told, many):
    """The steps of the copies of a told room."""
    noughts = [Ratio(0)] * (many - 1)
    rows = []
    for row in told:
        spread = [number for first in row for number in [first, *noughts]]
        rows.extend([_moved(spread, by) for by in range(many)])
    return rows


def _moved(row, by):
    """The row moved so many places on; noughts stand where numbers would fall off its end."""
    return [Ratio(0)] * by + row[:len(row) - by]


def cut(row, many):
    """The pieces of a list."""
    return [row[start::many] for start in range(many)]
