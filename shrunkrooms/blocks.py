"""Simple teams, and the blocks into which a full team falls along a chain of tight rooms."""

from shrunkrooms.checks import is_list
from shrunkrooms.errors import InvalidChain
from shrunkrooms.lacks import is_full
from shrunkrooms.lifts import lifted_behind, lifted_within, sunk_within
from shrunkrooms.lists import unit_rows
from shrunkrooms.makers import behind, within
from shrunkrooms.spans import are_made
from shrunkrooms.teams import is_room, loss, told_room
from shrunkrooms.tight import tight_room, want_full


def is_simple(team):
    """Whether the team is full, and only nothing and all are tight."""
    if not is_full(team):
        return False
    return tight_room(team) is None


def block_sizes(team):
    """How many places the pieces of a chain have, rising."""
    rooms = chain(team)
    return sorted([len(room) - len(ahead) for ahead, room in zip(rooms, rooms[1:])])


def chain(team):
    """Tight rooms from nothing to all, each within the next one, and none between."""
    want_full(team)
    return [[], *_between(team), unit_rows(team.wide)]


def is_chain(team, value):
    """Whether the value is a chain of the team."""
    want_full(team)
    return _are_links(team, value)


def pieces_of(team, chain):
    """The pieces of the chain."""
    want_full(team)
    if not _are_links(team, chain):
        raise InvalidChain(chain)
    return _pieces(team, [told_room(team, room) for room in chain])


def _between(team):
    """The rooms of a chain of a full team but nothing and all."""
    room = tight_room(team)
    if room is None:
        return []
    below = [lifted_within(rows, room) for rows in _between(within(team, room))]
    above = [lifted_behind(rows, room, team.wide) for rows in _between(behind(team, room))]
    return below + [room] + above


def _are_links(team, value):
    """Whether the value is a chain of a full team."""
    if not is_list(value) or not all([is_room(team, room) for room in value]):
        return False
    if len(value) == 0 or len(value[0]) != 0 or len(value[-1]) != team.wide:
        return False
    rooms = [told_room(team, room) for room in value]
    if not all([len(ahead) < len(room) and are_made(room, ahead) for ahead, room in zip(rooms, rooms[1:])]):
        return False
    return all([loss(team, room) == 0 for room in rooms]) and all([is_simple(piece) for piece in _pieces(team, rooms)])


def _pieces(team, rooms):
    """For each told room and the next one, that holds it, the team within that one and behind the room."""
    return [behind(within(team, room), sunk_within(ahead, room)) for ahead, room in zip(rooms, rooms[1:])]
