"""Teams, their rooms, and what they make of them."""

from shrunkrooms.checks import are_tables, is_between, is_numbers
from shrunkrooms.errors import InvalidList, InvalidPlace, InvalidRoom, InvalidTables, InvalidTeam
from shrunkrooms.lists import as_row, as_rows, led, turned
from shrunkrooms.spans import level_steps, made_steps, span_rank, span_steps
from shrunkrooms.steps import is_grid

MOST_TABLES = 16
MOST_PLACES = 4


class Team:
    """Tables of the same sides that work together; it never changes."""

    def __init__(self, tables):
        if not are_tables(tables, 1, MOST_TABLES, MOST_PLACES):
            raise InvalidTables(tables)
        self._tables = [as_rows(table) for table in tables]

    @property
    def many(self):
        """How many tables there are."""
        return len(self._tables)

    @property
    def tall(self):
        """How many rows each table has."""
        return len(self._tables[0])

    @property
    def wide(self):
        """How many numbers each row has."""
        return len(self._tables[0][0])

    def tables(self):
        """The list of the tables, a new one."""
        return [as_rows(table) for table in self._tables]

    def __eq__(self, other):
        return isinstance(other, Team) and self._tables == other._tables

    def __repr__(self):
        return f"Team({self._tables})"


def is_room(team, value):
    """Whether the value is a room of the team."""
    want_team(team)
    return _is_free_grid(value, team.wide)


def told_room(team, room):
    """The steps of the room."""
    want_team(team)
    want_room(team, room)
    return span_steps(as_rows(room))


def does(team, place, mixture):
    """The far list that the table at this place does to a list."""
    want_team(team)
    want_place(team, place)
    if not is_numbers(mixture, team.wide, team.wide):
        raise InvalidList(mixture)
    return led(team.tables()[place], as_row(mixture))


def made(team, room):
    """What the team makes of a room: the steps of all that its tables do to the room's lists."""
    want_team(team)
    want_room(team, room)
    return made_steps(team.tables(), as_rows(room))


def before(team, far):
    """The room of all lists that each table leads into the far room."""
    want_team(team)
    want_far(team, far)
    # A list is led into the far room if what is led there has nothing in common with the far room's level lists.
    level = level_steps(as_rows(far), team.tall)
    turns = [turned(table) for table in team.tables()]
    return level_steps([led(table, row) for table in turns for row in level], team.wide)


def loss(team, room):
    """The size of the room less the size of what is made of it."""
    far = made(team, room)
    return len(room) - len(far)


def want_team(team):
    """Raises InvalidTeam unless the value is a Team."""
    if not isinstance(team, Team):
        raise InvalidTeam(team)


def want_room(team, room):
    """Raises InvalidRoom unless the value is a room of the team."""
    if not _is_free_grid(room, team.wide):
        raise InvalidRoom(room)


def want_far(team, far):
    """Raises InvalidRoom unless the value is a far room of the team."""
    if not _is_free_grid(far, team.tall):
        raise InvalidRoom(far)


def want_place(team, place):
    """Raises InvalidPlace unless the value is the place of one of the team's tables."""
    if not is_between(place, 0, team.many - 1):
        raise InvalidPlace(place)


def _is_free_grid(value, wide):
    """Whether the value is a grid of this width, none of whose rows is made of the others."""
    if not is_grid(value):
        return False
    if len(value) == 0:
        return True
    return len(value[0]) == wide and span_rank(as_rows(value)) == len(value)
