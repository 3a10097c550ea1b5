"""Helpers: crossed sums, copies and pieces, and what is kept small."""

import unittest

from shrunkrooms.errors import InvalidGrid, InvalidHelpers, InvalidMany, InvalidRoom, InvalidTeam
from shrunkrooms.helpers import copies, crossed, crossed_rank, is_helpers, is_kept_small, pieces, sides
from shrunkrooms.makers import beside, in_letters, sign_team
from shrunkrooms.plain import mixture
from shrunkrooms.ratios import Ratio
from shrunkrooms.steps import holds, joined, shared, steps
from shrunkrooms.teams import Team, loss, made
from tests.drawn_teams import NO_TEAMS, draw_helpers, teams
from tests.test_steps import NO_GRIDS
from tests.test_teams import no_rooms
from tests.tools import (NO_COUNTS, NO_TABLES, Case, Draw, about, makes, product, ratios, reference_rank,
                         reference_steps, tupled, unit)

NARROW = Team([[[1, 0], [0, 0]], [[0, 1], [0, 0]]])
SIDES = [(1, 1), (1, 2), (2, 1), (2, 2), (3, 2), (2, 3), (4, 4)]

NO_HELPERS = NO_TABLES + [
    [], (), [[[1]]], [[[1]]] * 3, [[[1]], [[1, 2]]], [[[1]], [[1], [1]]], [[[1, 2], [3]], [[1, 2], [3, 4]]],
    [[[1] * 25]] * 2, [[[1]] * 25] * 2, [[[1] * 25] * 25] * 2, [[[1]], [[True]]], [[[1]], [["1"]]], [[[1]], None],
    [[[1]], [[]]], [[], []], [[[]], [[]]], [[1], [1]], [[[1]], [1]], [[[1]], 1], {0: [[1]], 1: [[1]]}, [[[1]], [[[1]]]],
    [[[1, 2]], [[1]]], [[[1], [2]], [[1]]], NARROW, [[[1]], [[1, None]]], [[[1, 1]], [[1, Ratio]]]]


def reference_crossed(team, helpers):
    """The crossed sum by the words of its definition."""
    tables = team.tables()
    s, t = len(helpers[0]), len(helpers[0][0])
    rows = []
    for row in range(team.tall * s):
        i, a = divmod(row, s)
        rows.append([])
        for place in range(team.wide * t):
            j, b = divmod(place, t)
            rows[-1].append(Ratio.total([table[i][j] * helper[a][b] for table, helper in zip(tables, helpers)]))
    return rows


def drawn(seed):
    draw = Draw(seed)
    for team in teams():
        for s, t in SIDES[:5] if team.many == 16 else SIDES:
            yield draw, team, draw_helpers(draw, team, s, t), s, t


class IsHelpers(Case):
    def test_helpers(self):
        for draw, team, helpers, s, t in drawn(60):
            self.assertIs(self.told(is_helpers, team, helpers), True)
            self.assertIs(is_helpers(value=tupled(helpers), team=team), True)
            found = self.told(sides, team, helpers)
            self.assertEqual(found, (s, t))
            self.assertIs(found.__class__, tuple)
            self.assertEqual(sides(helpers=tupled(helpers), team=team), (s, t))
        for s, t in [(24, 24), (1, 24), (24, 1)]:
            self.assertIs(is_helpers(NARROW, [[[1] * t] * s] * 2), True)
            self.assertEqual(sides(NARROW, [[[1] * t] * s] * 2), (s, t))

    def test_no_helpers(self):
        for value in NO_HELPERS:
            self.assertIs(is_helpers(NARROW, value), False, value)
            for function in (sides, crossed, crossed_rank):
                self.fails_value(InvalidHelpers, value, function, NARROW, value)
                self.fails_value(InvalidHelpers, value, function, helpers=value, team=NARROW)
            self.fails_value(InvalidHelpers, value, is_kept_small, NARROW, value, [[1, 0]])
            self.fails_value(InvalidHelpers, value, is_kept_small, NARROW, value, None)
            self.fails_value(InvalidHelpers, value, is_kept_small, room=[[0, 0]], helpers=value, team=NARROW)

    def test_no_teams(self):
        for value in NO_TEAMS:
            for function in (is_helpers, sides, crossed, crossed_rank):
                self.fails_value(InvalidTeam, value, function, value, [[[1]]])
                self.fails_value(InvalidTeam, value, function, value, None)
            self.fails_value(InvalidTeam, value, is_kept_small, value, None, None)
            self.fails_value(InvalidTeam, value, copies, value, None, 0)


class Crossed(Case):
    def test_drawn_helpers(self):
        for draw, team, helpers, s, t in drawn(61):
            found = self.told(crossed, team, helpers)
            self.assertEqual(found, reference_crossed(team, helpers))
            self.assert_ratios(found)
            self.assertEqual((len(found), len(found[0])), (team.tall * s, team.wide * t))
            self.assertEqual(crossed(helpers=tupled(helpers), team=team), found)

    def test_rank(self):
        for draw, team, helpers, s, t in drawn(62):
            found = self.told(crossed_rank, team, helpers)
            self.assert_count(found)
            self.assertEqual(found, reference_rank(reference_crossed(team, helpers)))
            self.assertEqual(crossed_rank(helpers=tupled(helpers), team=team), found)

    def test_great_sides(self):
        draw = Draw(63)
        helpers = [[[draw.integer(9) for _ in range(24)] for _ in range(24)] for _ in range(3)]
        self.assertEqual(crossed(sign_team(), helpers), reference_crossed(sign_team(), helpers))
        self.assertEqual(crossed_rank(sign_team(), helpers), 72)
        team = Team([draw.rows(4, 4) for _ in range(16)])
        helpers = [draw.sparse(24, 24) for _ in range(16)]
        self.assertEqual(crossed(team, helpers), reference_crossed(team, helpers))
        self.assertEqual(crossed_rank(team, helpers), 96)
        self.assertEqual(crossed_rank(NARROW, [[[1] * 24] * 24, unit(24)]), 24)
        self.assertEqual(crossed_rank(NARROW, [unit(24)[:1], unit(24)[1:2]]), 1)
        self.assertEqual(crossed_rank(Team([unit(4)]), [[[1] * 24]]), 4)

    def test_squares(self):
        for draw, team, helpers, s, t in drawn(64):
            found = crossed(team, helpers)
            tables = team.tables()
            for i in range(team.tall):
                for j in range(team.wide):
                    square = [row[j * t:j * t + t] for row in found[i * s:i * s + s]]
                    weights = [table[i][j] for table in tables]
                    flat = [[number for row in helper for number in row] for helper in helpers]
                    self.assertEqual([number for row in square for number in row], product([weights], flat)[0])

    def test_sides_of_1_are_mixtures(self):
        draw = Draw(65)
        for team in teams():
            numbers = draw.row(team.many)
            self.assertEqual(crossed(team, [[[number]] for number in numbers]), mixture(team, numbers))

    def test_sums_multiples_and_letters(self):
        for draw, team, helpers, s, t in drawn(66):
            if s * t > 4 or team.many > 5:
                continue
            others = draw_helpers(draw, team, s, t)
            both = [[[a + Ratio(0) + b for a, b in zip(*rows)] for rows in zip(*pair)] for pair in zip(helpers, others)]
            one, two = crossed(team, helpers), crossed(team, others)
            self.assertEqual(crossed(team, both), [[a + b for a, b in zip(*rows)] for rows in zip(one, two)])
            times = [[[Ratio(-3, 2) * a for a in row] for row in helper] for helper in helpers]
            self.assertEqual(crossed(team, times), [[Ratio(-3, 2) * a for a in row] for row in one])
            rank = crossed_rank(team, helpers)
            left, right = draw.room(s, s), draw.room(t, t)
            moved = [product(product(left, helper), right) for helper in helpers]
            self.assertEqual(crossed_rank(team, moved), rank)
            letters = in_letters(team, draw.room(team.tall, team.tall), draw.room(team.wide, team.wide))
            self.assertEqual(crossed_rank(letters, helpers), rank)
            corner = [[row + [0] * t for row in helper] + [[0] * t + row for row in other]
                      for helper, other in zip(helpers, others)]
            self.assertEqual(crossed_rank(team, corner), rank + crossed_rank(team, others))
            if team.tall <= 2 and team.wide <= 2:
                self.assertEqual(crossed_rank(beside(team, team), helpers), 2 * rank)


class Copies(Case):
    def test_drawn_rooms(self):
        draw = Draw(67)
        for team in teams():
            for room in draw.rooms(team.wide):
                for many in (1, 2, 3, 15):
                    found = self.told(copies, team, room, many)
                    self.assert_ratios(found)
                    self.assertEqual(len(found), many * len(room))
                    for row in found:
                        self.assertEqual(len(row), team.wide * many)
                    if many < 15:
                        every = [[row[j // many] if j % many == b else 0 for j in range(team.wide * many)]
                                 for row in room for b in range(many)]
                        self.assertEqual(found, reference_steps(every))
                    self.assertEqual(copies(many=many, room=tupled(room), team=team), found)

    def test_pieces_of_copies_are_the_room(self):
        draw = Draw(68)
        for team in teams()[:20]:
            for room in draw.rooms(team.wide):
                for many in (1, 2, 5):
                    self.assertEqual(pieces(copies(team, room, many), many), steps(room))

    def test_copies_of_joined_and_of_shared(self):
        draw = Draw(69)
        for wide in (1, 2, 3, 4):
            team = Team([[[1] * wide]])
            for room in draw.rooms(wide):
                for other in draw.rooms(wide):
                    for many in (1, 2, 3):
                        one, two = copies(team, room, many), copies(team, other, many)
                        self.assertEqual(copies(team, joined(room, other), many), joined(one, two))
                        self.assertEqual(copies(team, shared(room, other), many), shared(one, two))

    def test_told_ones(self):
        self.assertEqual(copies(NARROW, [[1, 2]], 2), ratios([[1, 0, 2, 0], [0, 1, 0, 2]]))
        self.assertEqual(copies(sign_team(), [[0, 2, 0], [0, 0, 3]], 2), ratios(unit(6)[2:]))
        self.assertEqual(copies(NARROW, [], 15), [])
        self.assertEqual(copies(Team([unit(4)]), unit(4), 15), ratios(unit(60)))

    def test_wrong_values(self):
        for value in no_rooms(3):
            self.fails_value(InvalidRoom, value, copies, sign_team(), value, 2)
            self.fails_value(InvalidRoom, value, copies, many=0, room=value, team=sign_team())
        for value in NO_COUNTS + [0, 16, 10 ** 29]:
            self.fails_value(InvalidMany, value, copies, NARROW, [[1, 0]], value)
            self.fails_value(InvalidMany, value, copies, many=value, room=[], team=NARROW)


class Pieces(Case):
    def test_drawn_grids(self):
        draw = Draw(70)
        for _ in range(40):
            many, wide = draw.count(1, 5), draw.count(1, 4)
            for grid in (draw.rows(draw.count(1, 4), many * wide), draw.made_rows(3, many * wide, 1),
                         draw.sparse(1, many * wide), [[0] * (many * wide)]):
                found = self.told(pieces, grid, many)
                every = [[row[j * many + b] for j in range(wide)] for row in grid for b in range(many)]
                self.assertEqual(found, reference_steps(every))
                self.assert_ratios(found)
                self.assertEqual(pieces(many=many, grid=tupled(grid)), found)
                # Each row lies in the copies of its pieces.
                if wide <= 4 and found:
                    held = copies(Team([[[0] * wide]]), found, many)
                    for row in grid:
                        self.assertIs(holds(held, row), True)

    def test_counts_and_widths(self):
        self.assertEqual(pieces([[1, 2, 3, 4, 5, 6]], 6), [[Ratio(1)]])
        self.assertEqual(pieces([[1, 2, 3, 4, 5, 6]], 3), ratios(unit(2)))
        self.assertEqual(pieces([[1, 0, 0, 2, 0, 0]], 3), ratios([[1, 2]]))
        self.assertEqual(pieces([[1, 2, 3, 4, 5, 6]], 2), ratios([[1, 0, -1], [0, 1, 2]]))
        self.assertEqual(pieces([[2, 4, 6]], 1), ratios([[1, 2, 3]]))
        self.assertEqual(pieces(unit(64), 64), [[Ratio(1)]])
        self.assertEqual(pieces([[1] * 64] * 64, 32), [[Ratio(1), Ratio(1)]])
        for many in (1, 7, 63, 64):
            self.assertEqual(pieces([], many), [])
            self.assertEqual(pieces((), many), [])

    def test_wrong_values(self):
        for value in NO_GRIDS:
            self.fails_value(InvalidGrid, value, pieces, value, 1)
            self.fails_value(InvalidGrid, value, pieces, value, 0)
        for value in NO_COUNTS + [0, 65, 128, 10 ** 29]:
            self.fails_value(InvalidMany, value, pieces, [[1, 2, 3, 4, 5, 6]], value)
            self.fails_value(InvalidMany, value, pieces, [], value)
            self.fails_value(InvalidMany, value, pieces, many=value, grid=[])
        for many in (4, 5, 7, 12, 64):
            self.fails_value(InvalidMany, many, pieces, [[1, 2, 3, 4, 5, 6]], many)
        self.fails_value(InvalidMany, 2, pieces, [[1]], 2)


class KeptSmall(Case):
    def test_drawn_helpers(self):
        for draw, team, helpers, s, t in drawn(71):
            for room in draw.rooms(team.wide):
                self.assertIs(self.told(is_kept_small, team, helpers, room), True)
            self.assertIs(is_kept_small(room=tupled(room), helpers=tupled(helpers), team=team), True)

    def test_the_fact_by_its_words(self):
        for draw, team, helpers, s, t in drawn(72):
            if s * t > 4:
                continue
            table = reference_crossed(team, helpers)
            for room in draw.rooms(team.wide)[1:]:
                led = about(product(table, about(copies(team, room, t))))
                turned = Team([[[0] * team.tall]])
                self.assertTrue(makes(copies(turned, made(team, room), s), led))

    def test_ranks_are_kept_small(self):
        for draw, team, helpers, s, t in drawn(73):
            if s == t:
                for room in draw.rooms(team.wide):
                    self.assertLessEqual(crossed_rank(team, helpers), s * (team.wide - loss(team, room)))

    def test_great_sides(self):
        draw = Draw(74)
        helpers = [draw.sparse(24, 24) for _ in range(3)]
        self.assertIs(is_kept_small(sign_team(), helpers, [[1, 2, 3]]), True)
        self.assertIs(is_kept_small(sign_team(), helpers, unit(3)), True)
        self.assertIs(is_kept_small(NARROW, [[[1] * 24]] * 2, unit(2)), True)

    def test_no_rooms(self):
        for value in no_rooms(3):
            self.fails_value(InvalidRoom, value, is_kept_small, sign_team(), [[[1]]] * 3, value)
            self.fails_value(InvalidRoom, value, is_kept_small, room=value, helpers=[[[1]]] * 3, team=sign_team())


if __name__ == "__main__":
    unittest.main()
