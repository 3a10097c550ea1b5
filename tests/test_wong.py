"""Wong's row: back rooms, the row itself, whether helpers stay."""

import unittest

from shrunkrooms.errors import InvalidHelpers, InvalidRoom, InvalidTeam
from shrunkrooms.helpers import copies, crossed, crossed_rank
from shrunkrooms.lacks import free_rank, lack
from shrunkrooms.makers import pattern_team, sign_team
from shrunkrooms.ratios import Ratio
from shrunkrooms.teams import Team, loss, made
from shrunkrooms.wong import back, stays, wong
from tests.drawn_teams import NO_TEAMS, draw_helpers, teams, teams_of_all_sides
from tests.test_helpers import NO_HELPERS
from tests.test_teams import no_rooms
from tests.tools import (Case, Draw, about, digits_in, makes, other_kinds, product, ratios, reference_level,
                         reference_steps, tupled, unit)

NARROW = Team([[[1, 0], [0, 0]], [[0, 1], [0, 0]]])
SIDES = [(1, 1), (2, 2), (1, 2), (2, 1), (3, 2), (1, 3), (3, 3)]


def cases(seed):
    draw = Draw(seed)
    for at, team in enumerate(teams() + teams_of_all_sides()):
        for s, t in SIDES[:2] + [SIDES[at % len(SIDES)]]:
            yield draw, team, draw_helpers(draw, team, s, t), s, t
    for team in (sign_team(), NARROW, pattern_team(3, 3, [(0, 0), (0, 1), (1, 2), (2, 2)])):
        for s, t in SIDES:
            yield draw, team, [draw.sparse(s, t) for _ in range(team.many)], s, t


def far_copies(team, far, s):
    """The copies of a far room: those of a room of a team that is as wide as this one is high."""
    return copies(Team([unit(team.tall)]), far, s)


def reference_back(team, helpers, far):
    """The pieces of all lists for which what the crossed sum does is a sum of multiples of the copies' steps."""
    s, t = len(helpers[0]), len(helpers[0][0])
    rows = far_copies(team, far, s)
    equations = [list(row) + [-other[at] for other in rows] for at, row in enumerate(crossed(team, helpers))]
    found = [row[:team.wide * t] for row in reference_level(equations, team.wide * t + len(rows))]
    return reference_steps([row[start::t] for row in found for start in range(t)])


class Back(Case):
    def test_drawn_helpers(self):
        for draw, team, helpers, s, t in cases(90):
            for far in draw.rooms(team.tall):
                found = self.told(back, team, helpers, far)
                self.assertEqual(found, reference_back(team, helpers, far))
                self.assert_ratios(found)
            self.assertEqual(back(far=tupled(far), helpers=tupled(helpers), team=team), found)
            self.assertEqual(back(team, other_kinds(helpers), other_kinds(far)), found)

    def test_nothing_and_all(self):
        for draw, team, helpers, s, t in cases(91):
            self.assertEqual(back(team, helpers, unit(team.tall)), ratios(unit(team.wide)))
            found = back(team, helpers, [])
            self.assertEqual(len(found) == 0, crossed_rank(team, helpers) == team.wide * t)
            noughts = [[[0] * t for _ in range(s)] for _ in range(team.many)]
            self.assertEqual(back(team, noughts, ()), ratios(unit(team.wide)))

    def test_whichever_rows_tell_the_far_room(self):
        for draw, team, helpers, s, t in cases(92):
            for far in draw.rooms(team.tall)[1:]:
                other = product(draw.room(len(far), len(far)), far)
                self.assertEqual(back(team, helpers, other), back(team, helpers, far))

    def test_told_ones(self):
        self.assertEqual(back(NARROW, [[[1]], [[0]]], []), ratios([[0, 1]]))
        self.assertEqual(back(NARROW, [[[1]], [[2]]], []), [[Ratio(1), Ratio(-1, 2)]])
        self.assertEqual(back(NARROW, [[[1], [0]], [[0], [1]]], []), [])
        self.assertEqual(back(NARROW, [[[1, 0]], [[0, 0]]], []), ratios(unit(2)))
        self.assertEqual(back(NARROW, [[[1, 0]], [[0, 1]]], []), ratios(unit(2)))
        self.assertEqual(back(NARROW, [[[1]], [[0]]], [[0, 1]]), ratios([[0, 1]]))

    def test_wrong_values(self):
        for value in NO_TEAMS:
            self.fails_value(InvalidTeam, value, back, value, None, None)
            self.fails_value(InvalidTeam, value, back, far=[[0]], helpers=[[[1]]], team=value)
        for value in NO_HELPERS:
            self.fails_value(InvalidHelpers, value, back, NARROW, value, None)
            self.fails_value(InvalidHelpers, value, back, far=[], helpers=value, team=NARROW)
        tall = Team([[[1], [2], [3]]])
        for value in no_rooms(3):
            self.fails_value(InvalidRoom, value, back, tall, [[[1]]], value)
            self.fails_value(InvalidRoom, value, back, far=value, helpers=[[[1, 2], [3, 4]]], team=tall)
        self.assertEqual(back(tall, [[[1]]], [[1, 2, 3]]), [[Ratio(1)]])


class Wong(Case):
    def test_the_row_by_its_words(self):
        for draw, team, helpers, s, t in cases(93):
            found = self.told(wong, team, helpers)
            self.assertEqual(found[0], [])
            for far, later in zip(found, found[1:]):
                self.assertEqual(later, made(team, reference_back(team, helpers, far)))
                self.assertTrue(makes(later, far))
                self.assertGreater(len(later), len(far))
                self.assert_ratios(later)
                self.assertEqual(later, reference_steps(later))
            self.assertEqual(made(team, reference_back(team, helpers, found[-1])), found[-1])
            self.assertLessEqual(len(found), team.tall + 1)
            self.assertEqual(wong(helpers=tupled(helpers), team=team), found)
            self.assertEqual(wong(team, other_kinds(helpers)), found)

    def test_told_ones(self):
        self.assertEqual(wong(NARROW, [[[1]], [[0]]]), [[], ratios([[1, 0]])])
        self.assertEqual(wong(NARROW, [[[1], [0]], [[0], [1]]]), [[]])
        self.assertEqual(wong(Team([[[0, 0]]]), [[[1]]]), [[]])
        steep = pattern_team(4, 4, [(0, 0), (0, 1), (1, 1), (1, 2), (2, 2), (2, 3)])
        first = [[[int(place in ((0, 0), (1, 1), (2, 2)))]] for place in [(0, 0), (0, 1), (1, 1), (1, 2), (2, 2), (2, 3)]]
        self.assertEqual([len(far) for far in wong(steep, first)], [0, 1, 2, 3])
        self.assertEqual(wong(steep, first)[-1], ratios(unit(4)[:3]))
        # By this table alone a list is led to nought that another table leads anywhere.
        whole = pattern_team(4, 4, [(0, 0), (0, 1), (1, 1), (1, 2), (2, 2), (2, 3), (3, 3)])
        self.assertEqual([len(far) for far in wong(whole, first + [[[0]]])], [0, 2, 3, 4])
        self.assertIs(stays(whole, first + [[[0]]]), False)

    def test_great_sides(self):
        draw = Draw(94)
        for s, t in [(24, 24), (24, 1), (1, 24), (24, 12), (12, 24)]:
            helpers = [draw.sparse(s, t) for _ in range(2)]
            found = wong(NARROW, helpers)
            self.assertEqual(found, [[]] if s >= 2 * t else [[], ratios([[1, 0]])])
            self.assertEqual(back(NARROW, helpers, found[-1]), [] if s >= 2 * t else ratios(unit(2)))

    def test_wrong_values(self):
        for value in NO_TEAMS:
            for function in (wong, stays):
                self.fails_value(InvalidTeam, value, function, value, None)
                self.fails_value(InvalidTeam, value, function, helpers=[[[1]]], team=value)
        for value in NO_HELPERS:
            for function in (wong, stays):
                self.fails_value(InvalidHelpers, value, function, NARROW, value)
                self.fails_value(InvalidHelpers, value, function, helpers=value, team=NARROW)


class Stays(Case):
    def test_by_its_words(self):
        seen = []
        for draw, team, helpers, s, t in cases(95):
            found = self.told(stays, team, helpers)
            columns = about(crossed(team, helpers))
            self.assertIs(found, makes(columns, far_copies(team, wong(team, helpers)[-1], s)))
            self.assertIs(stays(helpers=other_kinds(helpers), team=team), found)
            seen.append((s == t, found))
        self.assertEqual(sorted(set(seen)), [(False, False), (False, True), (True, False), (True, True)])

    def test_equal_sides_stay_exactly_by_the_free_rank(self):
        seen = []
        for draw, team, helpers, s, t in cases(96):
            if s == t:
                found = stays(team, helpers)
                self.assertIs(found, crossed_rank(team, helpers) == s * free_rank(team))
                seen.append(found)
                if found:
                    room = back(team, helpers, wong(team, helpers)[-1])
                    self.assertEqual(loss(team, room), lack(team))
        self.assertEqual(sorted(set(seen)), [False, True])

    def test_told_ones(self):
        signs = sign_team()
        for numbers in ([1, 1, 2], [1, 0, 0], [0, 0, 0], [3, -5, 7]):
            self.assertIs(stays(signs, [[[number]] for number in numbers]), False)
        self.assertIs(stays(signs, [[[1, 0], [0, 1]], [[0, 1], [0, 0]], [[0, 0], [1, 0]]]), True)
        self.assertIs(stays(NARROW, [[[0]], [[1]]]), True)
        self.assertIs(stays(NARROW, [[[0]], [[0]]]), False)
        self.assertIs(stays(NARROW, [[[1, 0], [0, 1]], [[0, 0], [0, 0]]]), True)
        self.assertIs(stays(NARROW, [[[1, 0], [0, 0]], [[0, 1], [0, 0]]]), False)
        self.assertIs(stays(Team([[[0, 0, 0]]]), [[[0]]]), True)
        # Of unlike sides: all is made there, or nothing is lost.
        self.assertIs(stays(NARROW, [[[1, 2]], [[3, 4]]]), True)
        self.assertIs(stays(NARROW, [[[1], [0]], [[0], [1]]]), True)
        self.assertIs(stays(NARROW, [[[1], [0]], [[2], [0]]]), False)

    def test_numbers_with_many_digits(self):
        draw = Draw(97)
        great = [[[Ratio(draw.integer(999999), draw.count(1, 999999)) for _ in range(4)] for _ in range(4)] for _ in range(3)]
        lossy = Team([[row[:] for row in table[:1]] + [[0] * 4] * 3 for table in great])
        helpers = [[[Ratio(draw.integer(999999), draw.count(1, 999999)) for _ in range(2)] for _ in range(2)]
                   for _ in range(3)]
        self.assertEqual(wong(lossy, helpers), [[], ratios(unit(4)[:1])])
        self.assertIs(stays(lossy, helpers), True)
        self.assertIs(stays(Team(great), helpers), True)
        found = back(lossy, helpers, [])
        self.assertEqual(found, reference_back(lossy, helpers, []))
        self.assertLess(digits_in(found), 2000)


if __name__ == "__main__":
    unittest.main()
