"""Tables: their rank and determinant, what undoes them, their products."""

from shrunkrooms.checks import are_lists
from shrunkrooms.errors import InvalidTable, NotSquare, UnlikeWidths
from shrunkrooms.lists import as_rows, multiplied, unit_rows
from shrunkrooms.ratios import Ratio
from shrunkrooms.spans import span_rank, span_steps
from shrunkrooms.wholes import cleared, whole

MOST_ROWS = 96


def is_table(value):
    """Whether the value is a list of 1 to 96 rows, alike long, of 1 to 96 NUMBERS."""
    return are_lists(value, MOST_ROWS, MOST_ROWS)


def table_rank(table):
    """How many rows of steps the table has."""
    _want_table(table)
    return span_rank(as_rows(table))


def determinant(table):
    """The determinant of a square table."""
    _want_square(table)
    known, heads, worth = {}, [], Ratio(1)
    for row in as_rows(table):
        head, rest, factor = _settled_with_factor(row, known)
        if head is None:
            return Ratio(0)
        known[head] = rest
        heads.append(head)
        worth = worth * factor * rest[head]
    return worth * _sign_of_way(heads)


def undone(table):
    """The table by which a square table is undone, or None."""
    _want_square(table)
    many = len(table)
    told = span_steps([row + unit for row, unit in zip(as_rows(table), unit_rows(many))])
    if told[-1][many - 1].sign == 0:
        return None
    return [row[many:] for row in told]


def table_times(table, other):
    """The table that does what the first one does to what the other one does."""
    _want_table(table)
    _want_table(other)
    if len(other) != len(table[0]):
        raise UnlikeWidths()
    return multiplied(as_rows(table), as_rows(other))


def _settled_with_factor(row, known):
    """The head of what is left of a row behind known rows, what is left, and the factor it is to be taken times.

    The head is None if nothing is left.
    """
    rest = whole(row)
    factor = _quotient(row, rest)
    for place in range(len(row)):
        if rest[place] != 0 and place in known:
            rest, common, often = cleared(rest, known[place], place)
            factor = factor * Ratio(common, often)
        elif rest[place] != 0:
            return place, rest, factor
    return None, rest, factor


def _quotient(row, integers):
    """The number by which the integers are to be multiplied to give the row."""
    for number, integer in zip(row, integers):
        if integer != 0:
            return number.over(integer)
    return Ratio(0)


def _sign_of_way(heads):
    """1 if an even count of exchanges brings the heads into their sequence, else -1."""
    wrong = sum([int(head > later) for at, head in enumerate(heads) for later in heads[at + 1:]])
    return 1 if wrong % 2 == 0 else -1


def _want_table(table):
    """Raises InvalidTable unless the value is a table."""
    if not is_table(table):
        raise InvalidTable(table)


def _want_square(table):
    """Raises InvalidTable unless the value is a table, NotSquare unless it is square."""
    _want_table(table)
    if len(table) != len(table[0]):
        raise NotSquare()
