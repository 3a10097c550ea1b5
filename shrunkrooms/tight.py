"""Tight rooms of full teams: those of which nothing is lost."""

from shrunkrooms.errors import NotFull, TooMany
from shrunkrooms.keepers import kept_line, kept_plane
from shrunkrooms.lacks import is_full
from shrunkrooms.most import least_with
from shrunkrooms.teams import loss, want_room, want_team

MOST_TIGHT = 3


def is_tight(team, room):
    """Whether the loss of the room is 0."""
    want_team(team)
    want_room(team, room)
    want_full(team)
    return loss(team, room) == 0


def least_tight(team, room):
    """The least tight room that holds the room."""
    want_team(team)
    want_room(team, room)
    want_full(team)
    # With a lack of 0 the tight rooms are the most shrunk ones, and all is one.
    return least_with(team, room)


def tight_room(team):
    """A tight room that is neither nothing nor all, or None."""
    want_full(team)
    if team.wide == 1:
        return None
    line = kept_line(team)
    return kept_plane(team) if line is None else line


def want_full(team):
    """Raises InvalidTeam unless the value is a Team, NotFull unless it is full, TooMany if it has too many places."""
    if not is_full(team):
        raise NotFull()
    if team.wide > MOST_TIGHT:
        raise TooMany("places", MOST_TIGHT)
