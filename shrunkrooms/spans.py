"""What lists of Ratios make, told by steps. Nothing is checked here."""

from shrunkrooms.lists import led
from shrunkrooms.ratios import Ratio
from shrunkrooms.wholes import rank_of, reduced, settled, stepped, whole


def span_rank(rows):
    """The rank of the rows."""
    return rank_of([whole(row) for row in rows])


def span_steps(rows):
    """The steps of the rows."""
    found = reduced([whole(row) for row in rows])
    return [[Ratio(number, found[head][head]) for number in found[head]] for head in found]


def made_steps(tables, rows):
    """The steps of all that the tables do to the rows."""
    return span_steps([led(table, row) for table in tables for row in rows])


def heads_of(steps):
    """The places of the first numbers other than 0 of rows of steps."""
    return [[number.sign != 0 for number in row].index(True) for row in steps]


def level_steps(rows, wide):
    """The steps of all lists of this width whose products with each of the rows add up to 0."""
    # Steps of the rows read backwards leave level lists that are steps when read forwards.
    found = reduced([whole(row[::-1]) for row in rows])
    return [_level_row(found, wide, wide - 1 - head) for head in range(wide) if wide - 1 - head not in found]


def _level_row(found, wide, free):
    """The level list with 1 at the free place, 0 at the other free ones; found counts places from behind."""
    backward = [Ratio(-found[place][free], found[place][place]) if place in found else Ratio(int(place == free))
                for place in range(wide)]
    return backward[::-1]


def shared_steps(rows, others, wide):
    """The steps of the lists that both make."""
    return level_steps(level_steps(rows, wide) + level_steps(others, wide), wide)


def are_made(rows, others):
    """Whether each of the others is made of the rows."""
    known = stepped([whole(row) for row in rows])
    return all([settled(whole(row), known)[0] is None for row in others])
