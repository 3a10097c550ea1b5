"""The one chain of rooms by slopes: which rooms are made smallest for their size."""

from math import gcd

from shrunkrooms.best import best_helpers
from shrunkrooms.errors import TooMany
from shrunkrooms.lists import unit_rows
from shrunkrooms.teams import made, want_team

MOST_SLOPED = 3
# Helpers of some sides up to so many times the wanted ones serve for teams of at most three places.
MOST_TIMES = 5


def slopes(team):
    """How much each room of the slope chain has more than the one ahead: of what is made, and of size."""
    rooms = slope_chain(team)
    return [(_made_size(team, room) - _made_size(team, ahead), len(room) - len(ahead))
            for ahead, room in zip(rooms, rooms[1:])]


def slope_chain(team):
    """The slope chain, from nothing to all."""
    want_few_places(team)
    every = unit_rows(team.wide)
    return [[], *_between(team, [], every), every]


def least_steep(team, many, times):
    """The least room of those with the greatest sum of times its size less many times what is made of it."""
    common = gcd(many, times)
    _, room = best_helpers(team, many // common, times // common, MOST_TIMES)
    return room


def want_few_places(team):
    """Raises InvalidTeam unless the value is a Team, TooMany if it is too high or too wide."""
    want_team(team)
    if team.tall > MOST_SLOPED or team.wide > MOST_SLOPED:
        raise TooMany("places", MOST_SLOPED)


def _between(team, low, high):
    """The rooms of the chain between two rooms of it."""
    more_made, more = _made_size(team, high) - _made_size(team, low), len(high) - len(low)
    if more_made == 0:
        return []
    # If the quotients of made and size are all alike between both, those below end at the lower one.
    room = least_steep(team, more, more_made)
    if len(room) == len(low):
        return []
    return _between(team, low, room) + [room] + _between(team, room, high)


def _made_size(team, room):
    """How many far lists are made of the room."""
    return len(made(team, room))
