"""How much a team loses, with papers: a room that loses it, helpers that lose no more."""

from shrunkrooms.best import best_helpers
from shrunkrooms.checks import want_count
from shrunkrooms.helpers import crossed_rank, is_helpers
from shrunkrooms.lists import as_rows
from shrunkrooms.teams import is_room, loss, want_team

# Helpers of some sides below the free rank serve, or of sides 1.
MOST_WANTED = 3


def lack(team):
    """The greatest loss of all rooms."""
    return loss(team, loss_room(team))


def free_rank(team):
    """The width less the lack."""
    lost = lack(team)
    return team.wide - lost


def is_full(team):
    """Whether the team is square and has no lack."""
    want_team(team)
    return team.tall == team.wide and lack(team) == 0


def loss_room(team):
    """A room whose loss is the lack."""
    want_team(team)
    return best_helpers(team, 1, 1, MOST_WANTED)[1]


def free_helpers(team):
    """Helpers of equal sides whose crossed sum has the free rank as often as the sides tell."""
    want_team(team)
    found, _ = best_helpers(team, 1, 1, MOST_WANTED)
    return [as_rows(table) for table in found]


def is_loss_room(team, many, value):
    """Whether the value is a room with a loss of at least so many."""
    want_team(team)
    want_count(many)
    return is_room(team, value) and loss(team, value) >= many


def is_free_helpers(team, many, value):
    """Whether the value is helpers of equal sides whose crossed sum has the rank sides times many at least."""
    want_team(team)
    want_count(many)
    if not is_helpers(team, value) or len(value[0]) != len(value[0][0]):
        return False
    return crossed_rank(team, value) >= len(value[0]) * many
