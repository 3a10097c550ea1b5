"""Grids, their steps, and what they make, by themselves and with others."""

from shrunkrooms.checks import are_lists, is_list, is_numbers, want_many
from shrunkrooms.errors import InvalidGrid, InvalidList, UnlikeWidths
from shrunkrooms.lists import as_row, as_rows
from shrunkrooms.spans import are_made, level_steps, shared_steps, span_rank, span_steps

MOST = 64


def is_grid(value):
    """Whether the value is a grid."""
    return is_list(value) and (len(value) == 0 or are_lists(value, MOST, MOST))


def steps(grid):
    """The steps of the grid."""
    want_grid(grid)
    return span_steps(as_rows(grid))


def rank(grid):
    """How many steps the grid has."""
    want_grid(grid)
    return span_rank(as_rows(grid))


def joined(grid, other):
    """The steps of all sums of a list that the one makes and one that the other makes."""
    _want_grids(grid, other)
    return span_steps(as_rows(grid) + as_rows(other))


def shared(grid, other):
    """The steps of the lists that both make."""
    _want_grids(grid, other)
    if len(grid) == 0 or len(other) == 0:
        return []
    return shared_steps(as_rows(grid), as_rows(other), len(grid[0]))


def level(grid, wide):
    """The steps of all lists of this width whose products with each row add up to 0."""
    want_grid(grid)
    want_many(wide, 1, MOST)
    if len(grid) > 0 and len(grid[0]) != wide:
        raise UnlikeWidths()
    return level_steps(as_rows(grid), wide)


def holds(grid, row):
    """Whether the row is made of the grid."""
    want_grid(grid)
    if not is_numbers(row, 1, MOST) or (len(grid) > 0 and len(row) != len(grid[0])):
        raise InvalidList(row)
    return are_made(as_rows(grid), [as_row(row)])


def want_grid(grid):
    """Raises InvalidGrid unless the value is a grid."""
    if not is_grid(grid):
        raise InvalidGrid(grid)


def _want_grids(grid, other):
    """Raises the error of the first one that is no grid, or of grids of unlike widths."""
    want_grid(grid)
    want_grid(other)
    if len(grid) > 0 and len(other) > 0 and len(grid[0]) != len(other[0]):
        raise UnlikeWidths()
