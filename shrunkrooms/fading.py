"""Letters and powers of a number that lead a square team as near to nought as one likes."""

from shrunkrooms.basics import is_integer
from shrunkrooms.checks import are_lists_of, is_list
from shrunkrooms.errors import InvalidNumber, InvalidPaper, NotSquare
from shrunkrooms.lacks import loss_room
from shrunkrooms.lists import turned, unit_rows
from shrunkrooms.makers import in_letters
from shrunkrooms.ratios import Ratio, as_ratio, is_number
from shrunkrooms.spans import heads_of
from shrunkrooms.tables import determinant, undone
from shrunkrooms.teams import Team, made, want_team


def fading(team):
    """Letters of volume 1 and exponents by which the team fades, or None."""
    _want_square(team)
    room = loss_room(team)
    far = made(team, room)
    if len(room) == len(far):
        return None
    left, right = undone(turned(_framed(far, team.tall))), turned(_framed(room, team.wide))
    side, size, far_size = team.wide, len(room), len(far)
    rows = [side - far_size] * far_size + [-far_size] * (side - far_size)
    places = [size - side] * size + [size] * (side - size)
    return left, right, rows, places


def is_fading(team, value):
    """Whether the value is letters of volume 1 and exponents by which the team fades."""
    _want_square(team)
    if not isinstance(value, tuple) or len(value) != 4:
        return False
    left, right, rows, places = value
    if not _are_letters(left, team.tall) or not _are_letters(right, team.wide):
        return False
    if not _are_exponents(rows, team.tall) or not _are_exponents(places, team.wide):
        return False
    spots = [(row, place) for row in range(team.tall) for place in range(team.wide) if rows[row] + places[place] < 1]
    tables = in_letters(team, left, right).tables()
    return all([table[row][place].sign == 0 for table in tables for row, place in spots])


def faded(team, paper, number):
    """The team in the paper's letters, each number times the powers of this one that the exponents tell."""
    want_team(team)
    if team.tall != team.wide or not is_fading(team, paper):
        raise InvalidPaper(paper)
    if not is_number(number) or as_ratio(number).sign == 0:
        raise InvalidNumber(number)
    left, right, rows, places = paper
    tables = in_letters(team, left, right).tables()
    return Team([[_faded_row(table[at], rows[at], places, as_ratio(number)) for at in range(team.tall)]
                 for table in tables])


def _framed(told, wide):
    """The told lists and unit lists behind them, as the rows of a table of volume 1."""
    heads = heads_of(told)
    rows = told + [unit for place, unit in enumerate(unit_rows(wide)) if place not in heads]
    # Each of the told lists alone has a number at its head, and that is 1: so the volume is 1 or -1.
    sign = determinant(rows)
    return rows[:-1] + [[number * sign for number in rows[-1]]]


def _faded_row(row, exponent, places, factor):
    """The numbers of a row, each times the factor as often as both exponents together tell."""
    # Where a number is not 0 this is at least once.
    return [number if number.sign == 0 else number * _power(factor, exponent + other)
            for number, other in zip(row, places)]


def _power(factor, often):
    """The factor times itself so often, at least once."""
    worth, square, more = factor, factor, often - 1
    while more > 0:
        if more % 2 == 1:
            worth = worth * square
        more = more // 2
        if more > 0:
            square = square * square
    return worth


def _are_letters(value, side):
    """Whether the value is a table of so many rows and places of volume 1."""
    return are_lists_of(value, side, side) and determinant(value) == Ratio(1)


def _are_exponents(value, side):
    """Whether the value is a list of so many integers that add up to 0."""
    return is_list(value) and len(value) == side and all([is_integer(number) for number in value]) and sum(value) == 0


def _want_square(team):
    """Raises InvalidTeam unless the value is a Team, NotSquare unless it is square."""
    want_team(team)
    if team.tall != team.wide:
        raise NotSquare()
