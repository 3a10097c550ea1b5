"""Sign teams: in some letters their tables turn their sign when turned about."""

from shrunkrooms.checks import are_lists_of
from shrunkrooms.lacks import free_rank
from shrunkrooms.lists import as_rows, multiplied
from shrunkrooms.plain import plain_rank
from shrunkrooms.ratios import Ratio
from shrunkrooms.spans import level_steps, span_rank
from shrunkrooms.teams import want_team

SIDE = 3


def plain_gap(team):
    """The free rank less the plain rank."""
    plain = plain_rank(team)
    return free_rank(team) - plain


def is_signs(team):
    """Whether the team is a sign team."""
    return sign_letters(team) is not None


def sign_letters(team):
    """A table that can be undone and makes all tables of the team turned-sign; None unless it is a sign team."""
    want_team(team)
    if (team.tall, team.wide) != (SIDE, SIDE):
        return None
    if span_rank([[number for row in table for number in row] for table in team.tables()]) != SIDE:
        return None
    # Of a sign team the sign letters are one table but for a factor: so if there are several, none can be undone.
    found = level_steps(_equations(team), SIDE * SIDE)
    if len(found) != 1:
        return None
    letters = [found[0][at:at + SIDE] for at in range(0, SIDE * SIDE, SIDE)]
    return letters if span_rank(letters) == SIDE else None


def is_sign_letters(team, value):
    """Whether the value is sign letters of the team."""
    if not is_signs(team) or not are_lists_of(value, SIDE, SIDE):
        return False
    letters = as_rows(value)
    if span_rank(letters) != SIDE:
        return False
    return all([_is_turned_sign(multiplied(letters, table)) for table in team.tables()])


def _is_turned_sign(table):
    """Whether the number at each row and place and the one at place and row add up to 0."""
    return all([table[row][place] == -table[place][row] for row in range(SIDE) for place in range(row + 1)])


def _equations(team):
    """Rows to which the numbers of a table, row by row, are level if it makes all tables turned-sign."""
    places = [(row, place) for row in range(SIDE) for place in range(row + 1)]
    return [_equation(table, row, place) for table in team.tables() for row, place in places]


def _equation(table, row, place):
    """By the numbers of letters, row by row: what letters times the table has at this place and the turned one."""
    sums = [[Ratio(0)] * SIDE for _ in range(SIDE)]
    sums[row] = [line[place] for line in table]
    sums[place] = [number + line[row] for number, line in zip(sums[place], table)]
    return sums[0] + sums[1] + sums[2]
