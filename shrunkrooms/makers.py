"""Teams that are made of teams, of rooms of them, or told by patterns and lists."""

from shrunkrooms.checks import are_lists, are_lists_of, are_places, want_many
from shrunkrooms.errors import (InvalidLetters, InvalidLists, InvalidNumbers, InvalidPlaces, InvalidTable, NothingLeft,
                                TooMany, UnlikeMany)
from shrunkrooms.lists import as_row, as_rows, dot, led, multiplied, turned
from shrunkrooms.spans import heads_of, span_rank
from shrunkrooms.teams import MOST_PLACES, MOST_TABLES, Team, made, told_room, want_place, want_team


def upright(team):
    """The team with each table turned about."""
    want_team(team)
    return Team([turned(table) for table in team.tables()])


def in_letters(team, left, right):
    """The team of the tables left A right."""
    want_team(team)
    _want_letters(left, team.tall)
    _want_letters(right, team.wide)
    first, last = as_rows(left), as_rows(right)
    return Team([multiplied(multiplied(first, table), last) for table in team.tables()])


def remixed(team, numbers):
    """The team of the sums of the tables, each times its number, for each list of numbers."""
    want_team(team)
    if not are_lists(numbers, MOST_TABLES, MOST_TABLES) or len(numbers[0]) != team.many:
        raise InvalidNumbers(numbers)
    return Team([mixed(team.tables(), as_row(row)) for row in numbers])


def mixed(tables, numbers):
    """The sum of the tables, each times its number."""
    tall, wide = len(tables[0]), len(tables[0][0])
    return [[dot([table[row][place] for table in tables], numbers) for place in range(wide)] for row in range(tall)]


def beside(team, other):
    """The team of the tables A, B with A first, each table ahead of and above its fellow."""
    want_team(team)
    want_team(other)
    if team.many != other.many:
        raise UnlikeMany()
    if team.tall + other.tall > MOST_PLACES or team.wide + other.wide > MOST_PLACES:
        raise TooMany("places", MOST_PLACES)
    noughts_behind, noughts_ahead = [0] * other.wide, [0] * team.wide
    return Team([[row + noughts_behind for row in table] + [noughts_ahead + row for row in fellow]
                 for table, fellow in zip(team.tables(), other.tables())])


def without(team, place):
    """The team without the table at this place."""
    want_team(team)
    want_place(team, place)
    if team.many == 1:
        raise NothingLeft()
    tables = team.tables()
    return Team(tables[:place] + tables[place + 1:])


def with_table(team, table):
    """The team with one more table at the end."""
    want_team(team)
    if not are_lists_of(table, team.tall, team.wide):
        raise InvalidTable(table)
    if team.many == MOST_TABLES:
        raise TooMany("tables", MOST_TABLES)
    return Team(team.tables() + [as_rows(table)])


def behind(team, room):
    """The team on what is left of the lists behind the room, and of the far lists behind what is made of it."""
    near, far = told_room(team, room), made(team, room)
    near_heads, far_heads = heads_of(near), heads_of(far)
    places = [place for place in range(team.wide) if place not in near_heads]
    far_places = [place for place in range(team.tall) if place not in far_heads]
    if len(places) == 0 or len(far_places) == 0:
        raise NothingLeft()
    return Team([_behind_table(turned(table), far, places, far_places) for table in team.tables()])


def _behind_table(columns, far, places, far_places):
    """The table behind a room, of the columns of the table itself and the steps of the far room."""
    heads = heads_of(far)
    kept = []
    for place in places:
        column = columns[place]
        taken = [column[head] for head in heads]
        kept.append([column[at] - dot(taken, [row[at] for row in far]) for at in far_places])
    return turned(kept)


def within(team, room):
    """The team on the room by itself, and on what is made of it."""
    near, far = told_room(team, room), made(team, room)
    if len(near) == 0 or len(far) == 0:
        raise NothingLeft()
    heads = heads_of(far)
    return Team([turned([[image[head] for head in heads] for image in [led(table, row) for row in near]])
                 for table in team.tables()])


def pattern_team(tall, wide, places):
    """The team that has for each place the table with 1 there, 0 else."""
    want_many(tall, 1, MOST_PLACES)
    want_many(wide, 1, MOST_PLACES)
    if not are_places(places, tall, wide, 1, MOST_TABLES):
        raise InvalidPlaces(places)
    return Team([[[int((row, place) == spot) for place in range(wide)] for row in range(tall)] for spot in places])


def pairs_team(fars, nears):
    """The team that has for each position the table of all products of the far list and the near one."""
    want_pairs(fars, nears)
    return Team([[[number * factor for factor in near] for number in far]
                 for far, near in zip(as_rows(fars), as_rows(nears))])


def sign_team():
    """The team of the three tables of three rows that turn their sign when turned about."""
    return Team([[[0, 1, 0], [-1, 0, 0], [0, 0, 0]],
                 [[0, 0, 1], [0, 0, 0], [-1, 0, 0]],
                 [[0, 0, 0], [0, 0, 1], [0, -1, 0]]])


def want_pairs(fars, nears):
    """Raises InvalidLists with the first one that is no lists alike long, UnlikeMany unless both are as many."""
    for lists in (fars, nears):
        if not are_lists(lists, MOST_TABLES, MOST_PLACES):
            raise InvalidLists(lists)
    if len(fars) != len(nears):
        raise UnlikeMany()


def _want_letters(table, side):
    """Raises InvalidLetters unless the value is a table of so many rows and places that can be undone."""
    if not are_lists_of(table, side, side) or span_rank(as_rows(table)) != side:
        raise InvalidLetters(table)
