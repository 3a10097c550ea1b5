"""Teams that several tests use, drawn and told ones, and values that are none."""

from shrunkrooms.makers import in_letters, pattern_team, sign_team
from shrunkrooms.ratios import Ratio
from shrunkrooms.tables import undone
from shrunkrooms.teams import Team
from tests.tools import STRANGE, Draw, about, product

NO_TEAMS = STRANGE + [1, Ratio(1), [], [[[1]]], ([[1]],)]


def draw_team(draw, many=None, tall=None, wide=None):
    many = many or draw.count(1, 5)
    tall = tall or draw.count(1, 4)
    wide = wide or draw.count(1, 4)
    shape = draw.count(1, 3)
    if shape == 1:
        return Team([draw.rows(tall, wide) for _ in range(many)])
    if shape == 2:
        return Team([draw.sparse(tall, wide) for _ in range(many)])
    return Team([draw.made_rows(tall, wide, draw.count(0, min(tall, wide))) for _ in range(many)])


def draw_helpers(draw, team, tall, wide):
    return [draw.rows(tall, wide) for _ in range(team.many)]


def in_drawn_letters(draw, team):
    """The team in letters, and the right letters undone, by which its rooms are led to those in the letters."""
    left, right = draw.room(team.tall, team.tall), draw.room(team.wide, team.wide)
    return in_letters(team, left, right), undone(right)


def led_rooms(table, room):
    """The rows that a table does to the rows of a room."""
    return about(product(table, about(room))) if len(room) > 0 else []


def teams_of_all_sides():
    """Teams of each height and width, drawn ones and ones that lose something."""
    draw = Draw(12)
    found = []
    for tall in (1, 2, 3, 4):
        for wide in (1, 2, 3, 4):
            found.append(draw_team(draw, None, tall, wide))
            found.append(Team([draw.sparse(tall, wide) for _ in range(draw.count(1, 3))]))
            found.append(lossy_team(draw, draw.count(1, 4), tall, wide))
    found += [draw_team(draw, many, 3, 3) for many in range(6, 17)]
    return found


def lossy_team(draw, many, tall, wide):
    """A team, in letters, that leads some places into few far places."""
    near, far = draw.count(1, wide), draw.count(0, tall - 1)
    tables = [[[0 if place < near and row >= far else draw.number(2) for place in range(wide)] for row in range(tall)]
              for _ in range(many)]
    return in_drawn_letters(draw, Team(tables))[0]


# Simple teams of three tables, by their places; those of one row here are unlike one another.
SIMPLE = {
    1: [[[[1]], [[0]], [[0]]], [[[0]], [[2]], [[1]]], [[[1]], [[1]], [[1]]]],
    2: [[[[1, 0], [0, 1]], [[0, 2], [1, 0]], [[0, 0], [0, 0]]],
        [[[1, 0], [0, 1]], [[0, 0], [1, 0]], [[0, 1], [0, 0]]],
        [[[1, 0], [0, 0]], [[0, 1], [1, 0]], [[0, 0], [0, 1]]],
        [[[0, -1], [1, 0]], [[3, 0], [0, 3]], [[0, -1], [1, 0]]]],
    3: [[[[0, 1, 0], [-1, 0, 0], [0, 0, 0]], [[0, 0, 1], [0, 0, 0], [-1, 0, 0]], [[0, 0, 0], [0, 0, 1], [0, -1, 0]]],
        [[[1, 0, 0], [0, 1, 0], [0, 0, 1]], [[0, 0, 2], [1, 0, 0], [0, 1, 0]], [[0, 0, 0]] * 3],
        [[[1, 0, 0], [0, 1, 0], [0, 0, 1]], [[0, 1, 0], [0, 0, 1], [0, 0, 0]], [[0, 0, 0], [0, 0, 0], [1, 0, 0]]]]}


def stacked(draw, parts, mixed_above):
    """A team of simple teams along the middle line, 0 below them; above them anything, if that is wanted."""
    wide = sum(len(part[0]) for part in parts)
    tables = []
    for at in range(3):
        table = [[draw.integer(2) if mixed_above else 0 for _ in range(wide)] for _ in range(wide)]
        start = 0
        for part in parts:
            size = len(part[at])
            for row in range(size):
                table[start + row] = [0] * start + part[at][row] + table[start + row][start + size:]
            start += size
        tables.append(table)
    return Team(tables)


def full_teams(seed):
    """Full teams of at most three places: the simple ones of which each is put together, and whether it falls apart.

    Each comes in letters, with the table that leads the rooms of the team along the middle line to its own.
    """
    draw = Draw(seed)
    for sizes in [(1,), (2,), (3,), (1, 1), (1, 2), (2, 1), (1, 1, 1)]:
        for _ in range(4 * len(sizes)):
            parts = [draw.random.choice(SIMPLE[size]) for size in sizes]
            apart = draw.count(0, 1) == 0
            team, there = in_drawn_letters(draw, stacked(draw, parts, not apart))
            yield team, there, parts, apart


def teams():
    """Drawn teams of many sides, and some that are told."""
    draw = Draw(11)
    found = [draw_team(draw) for _ in range(40)]
    found += [sign_team(), pattern_team(2, 2, [(0, 0), (0, 1)]), Team([[[0]]]), Team([[[Ratio(1, 2)]]]),
              Team([[[0] * 4 for _ in range(4)] for _ in range(3)]), Team([[[1, 2, 3, 4]]] * 16),
              Team([[[1], [0], [2], [0]], [[0], [0], [1], [1]]]), Team([[[1, 0, 0], [0, 0, 1]], [[0, 1, 0], [0, 0, 0]]])]
    return found
