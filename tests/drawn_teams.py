"""Teams that several tests use, drawn and told ones, and values that are none."""

from shrunkrooms.makers import pattern_team, sign_team
from shrunkrooms.ratios import Ratio
from shrunkrooms.teams import Team
from tests.tools import STRANGE, Draw

NO_TEAMS = STRANGE + [1, Ratio(1), [], [[[1]]], ([[1]],)]


def draw_team(draw, many=None, tall=None, wide=None):
    many = many or draw.count(1, 5)
    tall = tall or draw.count(1, 4)
    wide = wide or draw.count(1, 4)
    shape = draw.count(1, 3)
    if shape == 1:
        return Team([draw.rows(tall, wide) for _ in range(many)])
    if shape == 2:
        return Team([draw.sparse(tall, wide) for _ in range(many)])
    return Team([draw.made_rows(tall, wide, draw.count(0, min(tall, wide))) for _ in range(many)])


def draw_helpers(draw, team, tall, wide):
    return [draw.rows(tall, wide) for _ in range(team.many)]


def teams():
    """Drawn teams of many sides, and some that are told."""
    draw = Draw(11)
    found = [draw_team(draw) for _ in range(40)]
    found += [sign_team(), pattern_team(2, 2, [(0, 0), (0, 1)]), Team([[[0]]]), Team([[[Ratio(1, 2)]]]),
              Team([[[0] * 4 for _ in range(4)] for _ in range(3)]), Team([[[1, 2, 3, 4]]] * 16),
              Team([[[1], [0], [2], [0]], [[0], [0], [1], [1]]]), Team([[[1, 0, 0], [0, 0, 1]], [[0, 1, 0], [0, 0, 0]]])]
    return found
