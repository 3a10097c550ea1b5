"""Most shrunk rooms: the least and the greatest one, and the three parts into which a team falls by them."""

from shrunkrooms.lacks import lack, loss_room
from shrunkrooms.lifts import lifted_behind, lifted_within
from shrunkrooms.lists import unit_rows
from shrunkrooms.makers import behind, upright, within
from shrunkrooms.spans import level_steps
from shrunkrooms.steps import joined, shared
from shrunkrooms.teams import loss, made, told_room, want_room, want_team


def least_room(team):
    """The most shrunk room that lies within each other one."""
    # The loss room comes from helpers that stay: such a one lies within all others.
    return loss_room(team)


def greatest_room(team):
    """The most shrunk room that holds each other one."""
    turned_team = upright(team)
    return level_steps(made(turned_team, least_room(turned_team)), team.wide)


def is_most(team, room):
    """Whether the room is most shrunk."""
    return loss(team, room) == lack(team)


def least_with(team, room):
    """The least most shrunk room that holds the room, or None."""
    told, far = told_room(team, room), made(team, room)
    if len(told) == team.wide or len(far) == team.tall:
        # Whatever is put in where all far lists are made already is lost: so all loses the most.
        best = unit_rows(team.wide)
    else:
        best = lifted_behind(least_room(behind(team, told)), told, team.wide)
    return best if is_most(team, best) else None


def greatest_within(team, room):
    """The greatest most shrunk room within the room, or None."""
    told, far = told_room(team, room), made(team, room)
    if len(far) == 0:
        # All of a room of which nothing is made is lost: so the room itself loses the most.
        best = told
    else:
        best = lifted_within(greatest_room(within(team, told)), told)
    return best if is_most(team, best) else None


def swelling(team, room, other):
    """The losses of the room, of the other one, of both joined, of what they share."""
    want_team(team)
    want_room(team, room)
    want_room(team, other)
    both, common = joined(room, other), shared(room, other)
    return loss(team, room), loss(team, other), loss(team, both), loss(team, common)


def three(team):
    """How many far lists and lists the three parts have: up to the least room, from there to the greatest, beyond."""
    low, high = least_room(team), greatest_room(team)
    low_far, high_far = len(made(team, low)), len(made(team, high))
    return ((low_far, len(low)), (high_far - low_far, len(high) - len(low)),
            (team.tall - high_far, team.wide - len(high)))
