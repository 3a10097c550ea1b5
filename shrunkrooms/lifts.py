"""Rooms of the teams within and behind a room, told as rooms of the team itself. Nothing is checked here."""

from shrunkrooms.lists import multiplied
from shrunkrooms.ratios import Ratio
from shrunkrooms.spans import heads_of, span_steps


def lifted_within(rows, told):
    """The room that rows of steps tell within a told room."""
    # Steps of steps are steps.
    return multiplied(rows, told)


def lifted_behind(rows, told, wide):
    """The room that holds a told room and behind it is what the rows tell."""
    heads = heads_of(told)
    places = [place for place in range(wide) if place not in heads]
    return span_steps(told + [_spread(row, places, wide) for row in rows])


def sunk_within(rows, told):
    """What rows of a told room are within it: their numbers at the heads of its steps."""
    heads = heads_of(told)
    return [[row[head] for head in heads] for row in rows]


def _spread(row, places, wide):
    """The list with the row's numbers at these places, 0 else."""
    return [row[places.index(place)] if place in places else Ratio(0) for place in range(wide)]
