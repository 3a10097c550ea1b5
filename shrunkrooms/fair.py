"""Fair teams: of each room enough is made; helpers that show it, also of unlike sides."""

from math import gcd

from shrunkrooms.checks import want_many
from shrunkrooms.errors import NotFair
from shrunkrooms.helpers import crossed_rank, is_helpers, sides
from shrunkrooms.lists import as_rows
from shrunkrooms.scatter import scattered_tables
from shrunkrooms.slopes import MOST_TIMES, least_steep, want_few_places
from shrunkrooms.teams import is_room, made, want_team

MOST_QUOTIENT = 3


def is_fair(team, many, times):
    """Whether of each room many times what is made is at least times times its size."""
    return unfair_room(team, many, times) is None


def unfair_room(team, many, times):
    """A room of which less is made, or None."""
    _want_quotient(team, many, times)
    want_few_places(team)
    room = least_steep(team, many, times)
    return room if len(room) > 0 else None


def is_unfair_room(team, many, times, value):
    """Whether the value is a room of which less is made."""
    _want_quotient(team, many, times)
    return is_room(team, value) and many * len(made(team, value)) < times * len(value)


def fair_helpers(team, many, times):
    """Helpers of the sides many k and times k whose crossed sum leads nothing but noughts to noughts."""
    if not is_fair(team, many, times):
        raise NotFair()
    return _lossless_helpers(team, many, times)


def is_fair_helpers(team, many, times, value):
    """Whether the value is helpers of such sides, for any k, whose crossed sum leads only noughts to noughts."""
    _want_quotient(team, many, times)
    if not is_helpers(team, value):
        return False
    tall, wide = sides(team, value)
    # many k and times k for one k: both are that often many and times.
    return tall % many == 0 and tall // many * times == wide and crossed_rank(team, value) == team.wide * wide


def piece_helpers(team):
    """Helpers by which an even team makes a square crossed sum that can be undone."""
    want_few_places(team)
    # Even is what is fair for its own width and height.
    if not is_fair(team, team.wide, team.tall):
        raise NotFair()
    common = gcd(team.wide, team.tall)
    return _lossless_helpers(team, team.wide // common, team.tall // common)


def is_piece_helpers(team, value):
    """Whether the value is helpers by which the team makes a square crossed sum that can be undone."""
    if not is_helpers(team, value):
        return False
    tall, wide = sides(team, value)
    return team.tall * tall == team.wide * wide and crossed_rank(team, value) == team.wide * wide


def _lossless_helpers(team, tall, wide):
    """Helpers of the sides tall k and wide k, k from 1 on, whose crossed sum leads nothing but noughts to noughts."""
    start = 0
    while True:
        for times in range(1, MOST_TIMES + 1):
            start += 1
            helpers = scattered_tables(team.many, tall * times, wide * times, start)
            if crossed_rank(team, helpers) == team.wide * wide * times:
                return [as_rows(table) for table in helpers]


def _want_quotient(team, many, times):
    """Raises InvalidTeam unless the value is a Team, InvalidMany with the first count that is out of its bounds."""
    want_team(team)
    want_many(many, 1, MOST_QUOTIENT)
    want_many(times, 1, MOST_QUOTIENT)
