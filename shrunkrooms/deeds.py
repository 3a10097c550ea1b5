"""What deeds of a desk make: things of what their words tell.

Each function of MAKERS serves the deed of its word; it is given what stands behind the new name, things in the place of
names.
"""

from shrunkrooms.errors import InvalidPlace, UnlikeTeams
from shrunkrooms.helpers import want_helpers
from shrunkrooms.lacks import free_helpers, loss_room
from shrunkrooms.makers import (behind, beside, in_letters, pairs_team, pattern_team, remixed, sign_team, upright,
                                with_table, within, without)
from shrunkrooms.most import greatest_room, least_room
from shrunkrooms.steps import joined, shared
from shrunkrooms.teams import Team, told_room
from shrunkrooms.things import Thing, team_thing


def made_thing(word, parts):
    """The thing that a deed of this word makes of these parts."""
    maker = MAKERS[word]
    return maker(*parts)


def with_entry(thing, table, row, place, number):
    """The team with this number at this row and place of this table."""
    for at, many in ((table, thing.team.many), (row, thing.team.tall), (place, thing.team.wide)):
        if at >= many:
            raise InvalidPlace(at)
    tables = thing.team.tables()
    tables[table][row][place] = number
    return team_thing(Team(tables))


def _team(*tables):
    return team_thing(Team(list(tables)))


def _pattern(tall, wide, *places):
    return team_thing(pattern_team(tall, wide, list(places)))


def _pairs(*pairs):
    return team_thing(pairs_team([far for far, _ in pairs], [near for _, near in pairs]))


def _signs():
    return team_thing(sign_team())


def _upright(thing):
    return team_thing(upright(thing.team))


def _without(thing, place):
    return team_thing(without(thing.team, place))


def _with(thing, table):
    return team_thing(with_table(thing.team, table))


def _beside(thing, other):
    return team_thing(beside(thing.team, other.team))


def _letters(thing, left, right):
    return team_thing(in_letters(thing.team, left, right))


def _remixed(thing, *numbers):
    return team_thing(remixed(thing.team, list(numbers)))


def _behind(thing):
    return team_thing(behind(thing.team, thing.rows))


def _within(thing):
    return team_thing(within(thing.team, thing.rows))


def _room(thing, *rows):
    return Thing("room", thing.team, told_room(thing.team, list(rows)))


def _least(thing):
    return Thing("room", thing.team, least_room(thing.team))


def _greatest(thing):
    return Thing("room", thing.team, greatest_room(thing.team))


def _lossy(thing):
    return Thing("room", thing.team, loss_room(thing.team))


def _joined(thing, other):
    _want_one_team(thing, other)
    return Thing("room", thing.team, joined(thing.rows, other.rows))


def _shared(thing, other):
    _want_one_team(thing, other)
    return Thing("room", thing.team, shared(thing.rows, other.rows))


def _helpers(thing, *tables):
    want_helpers(thing.team, list(tables))
    return Thing("helpers", thing.team, list(tables))


def _free(thing):
    return Thing("helpers", thing.team, free_helpers(thing.team))


def _want_one_team(thing, other):
    """Raises UnlikeTeams unless both are of equal teams."""
    if thing.team != other.team:
        raise UnlikeTeams()


MAKERS = {"team": _team, "pattern": _pattern, "pairs": _pairs, "signs": _signs, "upright": _upright,
          "without": _without, "with": _with, "beside": _beside, "letters": _letters, "remixed": _remixed,
          "behind": _behind, "within": _within, "room": _room, "least": _least, "greatest": _greatest, "lossy": _lossy,
          "joined": _joined, "shared": _shared, "helpers": _helpers, "free": _free}
