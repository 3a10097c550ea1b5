"""Teams that are alike by two tables: left times the one's tables is the other's times right."""

from shrunkrooms.checks import are_lists_of
from shrunkrooms.errors import NotSimple, TooMany, UnlikeMany
from shrunkrooms.lacks import is_full
from shrunkrooms.lists import as_rows, multiplied, turned
from shrunkrooms.ratios import Ratio
from shrunkrooms.spans import level_steps, span_rank
from shrunkrooms.teams import want_team
from shrunkrooms.tight import MOST_TIGHT, tight_room


def alike(team, other):
    """A left and a right table by which both simple teams are alike, or None."""
    want_team(team)
    want_team(other)
    if not _goes_for_simple(team) or not _goes_for_simple(other):
        raise NotSimple()
    if team.many != other.many:
        raise UnlikeMany()
    if team.wide > MOST_TIGHT or other.wide > MOST_TIGHT:
        raise TooMany("places", MOST_TIGHT)
    # Of simple teams any solution will do: both its tables can be undone.
    of_left, of_right = other.tall * team.tall, other.wide * team.wide
    found = level_steps(_equations(team, other), of_left + of_right)
    if len(found) == 0:
        return None
    return _in_rows(found[0][:of_left], team.tall), _in_rows(found[0][of_left:], team.wide)


def is_alike(team, other, value):
    """Whether the value is a left and a right table by which both teams are alike."""
    want_team(team)
    want_team(other)
    if team.many != other.many or (team.tall, team.wide) != (other.tall, other.wide):
        return False
    if not isinstance(value, tuple) or len(value) != 2:
        return False
    if not _can_be_undone(value[0], team.tall) or not _can_be_undone(value[1], team.wide):
        return False
    left, right = as_rows(value[0]), as_rows(value[1])
    return all([multiplied(left, table) == multiplied(fellow, right)
                for table, fellow in zip(team.tables(), other.tables())])


def _goes_for_simple(team):
    """Whether the team is simple, or full with more places than are looked through."""
    return is_full(team) and (team.wide > MOST_TIGHT or tight_room(team) is None)


def _equations(team, other):
    """Rows to which the numbers of left and then right, row by row, are level if both teams are alike by them."""
    rows = []
    for table, fellow in zip(team.tables(), other.tables()):
        for at, letters in enumerate(fellow):
            for place, column in enumerate(turned(table)):
                rows.append(_left_part(column, at, other.tall) + _right_part(letters, place, team.wide))
    return rows


def _left_part(column, at, tall):
    """The column of a table, for one row of so many of the left table."""
    noughts = [Ratio(0)] * len(column)
    return [number for row in range(tall) for number in (column if row == at else noughts)]


def _right_part(letters, place, wide):
    """The row of a table, with the contrary sign, for one place of so many of the right table."""
    return [-letter if at == place else Ratio(0) for letter in letters for at in range(wide)]


def _in_rows(numbers, wide):
    """The table of these numbers, row behind row."""
    return [numbers[at:at + wide] for at in range(0, len(numbers), wide)]


def _can_be_undone(value, side):
    """Whether the value is a table of so many rows and places that can be undone."""
    return are_lists_of(value, side, side) and span_rank(as_rows(value)) == side
