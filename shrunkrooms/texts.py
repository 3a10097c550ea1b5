"""Written forms: values of six sorts as lines of words."""

from shrunkrooms.checks import are_places, are_tables, is_numbers
from shrunkrooms.errors import InvalidForm, InvalidSort
from shrunkrooms.helpers import MOST_SIDE
from shrunkrooms.lists import as_row
from shrunkrooms.steps import MOST, is_grid
from shrunkrooms.tables import is_table
from shrunkrooms.teams import MOST_TABLES, Team

SORTS = ("team", "helpers", "table", "grid", "numbers", "places")


def sorts():
    """The words of the sorts, in their sequence."""
    return list(SORTS)


def is_form(sort, value):
    """Whether the value is one of this sort."""
    if not isinstance(sort, str) or sort not in SORTS:
        raise InvalidSort(sort)
    if sort == "team":
        return isinstance(value, Team)
    if sort == "helpers":
        return are_tables(value, 1, MOST_TABLES, MOST_SIDE)
    if sort == "table":
        return is_table(value)
    if sort == "grid":
        return is_grid(value)
    if sort == "numbers":
        return is_numbers(value, 1, MOST)
    return are_places(value, MOST, MOST, 0, MOST)


def written(sort, value):
    """The written form of a value of this sort."""
    if not is_form(sort, value):
        raise InvalidForm(value)
    return "".join([f"{line}\n" for line in _lines(sort, value)])


def _lines(sort, value):
    """The lines of the written form."""
    if sort == "team":
        return _lines_of_tables(sort, value.tables())
    if sort == "helpers":
        return _lines_of_tables(sort, value)
    if sort == "numbers":
        return [_line(sort, as_row(value))]
    if sort == "places":
        return [sort, *[_line("at", place) for place in value]]
    return [sort, *_rows(value)]


def _lines_of_tables(sort, tables):
    """The lines of tables that are alike high and wide."""
    sides = (len(tables), len(tables[0]), len(tables[0][0]))
    return [_line(sort, sides), *[line for table in tables for line in _rows(table)]]


def _rows(rows):
    """The lines of rows of numbers."""
    return [_line("row", as_row(row)) for row in rows]


def _line(word, parts):
    """A line of a word and these parts."""
    return " ".join([word, *[str(part) for part in parts]])
