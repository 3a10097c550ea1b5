"""Lists and tables of Ratios: copied, turned about, multiplied. Nothing is checked here."""

from math import lcm

from shrunkrooms.ratios import Ratio, as_ratio


def as_row(row):
    """A new list of the Ratios of these NUMBERS."""
    return [as_ratio(number) for number in row]


def as_rows(rows):
    """New lists of the Ratios of these NUMBERS."""
    return [as_row(row) for row in rows]


def renewed(value):
    """The value with new lists and tuples, also within it."""
    if isinstance(value, list):
        return [renewed(part) for part in value]
    if isinstance(value, tuple):
        return tuple([renewed(part) for part in value])
    return value


def unit_rows(many):
    """The lists with 1 at one place, 0 else, for each place."""
    return [[Ratio(int(place == head)) for place in range(many)] for head in range(many)]


def turned(rows):
    """The rows of the table turned about: places for rows."""
    return [[row[place] for row in rows] for place in range(len(rows[0]))]


def dot(row, other):
    """The sum of the products of both numbers at the same places."""
    top, bottom = 0, 1
    for number, factor in zip(row, other):
        part = number.top * factor.top
        if part != 0:
            below = number.bottom * factor.bottom
            common = lcm(bottom, below)
            top = top * (common // bottom) + part * (common // below)
            bottom = common
    return Ratio(top, bottom)


def led(rows, mixture):
    """What the table of these rows does to a list."""
    return [dot(row, mixture) for row in rows]


def multiplied(rows, others):
    """The table that does what the one of these rows does to what the other one does."""
    columns = turned(others)
    return [[dot(row, column) for column in columns] for row in rows]
