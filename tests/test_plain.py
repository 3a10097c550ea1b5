"""Mixtures, plain ranks and plain papers."""

import unittest
from itertools import product as ways

from shrunkrooms.errors import InvalidNumbers, InvalidTeam, TooMany
from shrunkrooms.makers import beside, in_letters, pattern_team, sign_team, upright
from shrunkrooms.plain import is_plain_paper, mixture, plain_paper, plain_rank
from shrunkrooms.ratios import Ratio
from shrunkrooms.teams import Team, loss
from tests.drawn_teams import NO_TEAMS, teams
from tests.tools import NO_LISTS, Case, Draw, product, ratios, reference_rank, unit

NARROW = Team([[[1, 0], [0, 0]], [[0, 1], [0, 0]]])
FEW = [team for team in teams() if team.many <= 6]


def reference_plain_rank(team):
    """The greatest rank over all numbers from 0 to the least side: more of them are not wanted."""
    best = 0
    for numbers in ways(range(min(team.tall, team.wide) + 1), repeat=team.many):
        if best == min(team.tall, team.wide):
            break
        flat = [[number for row in table for number in row] for table in team.tables()]
        mixed = product([list(numbers)], flat)[0]
        best = max(best, reference_rank([mixed[at:at + team.wide] for at in range(0, len(mixed), team.wide)]))
    return best


class Mixture(Case):
    def test_drawn_teams(self):
        draw = Draw(80)
        for team in teams():
            numbers = draw.row(team.many)
            found = self.told(mixture, team, numbers)
            self.assert_ratios(found)
            flat = [[number for row in table for number in row] for table in team.tables()]
            self.assertEqual([number for row in found for number in row], product([numbers], flat)[0])
            self.assertEqual((len(found), len(found[0])), (team.tall, team.wide))
            self.assertEqual(mixture(numbers=tuple(numbers), team=team), found)

    def test_wrong_values(self):
        for value in NO_TEAMS:
            self.fails_value(InvalidTeam, value, mixture, value, None)
        for value in NO_LISTS + [[], (), [1], [1, 2, 3], [1, True], [1, "1"], [1, [1]], [[1, 2]], (1, 2, 3)]:
            self.fails_value(InvalidNumbers, value, mixture, NARROW, value)
            self.fails_value(InvalidNumbers, value, mixture, numbers=value, team=NARROW)

    def test_more_than_six_tables(self):
        self.assertEqual(mixture(Team([[[1, 2]]] * 16), [1] * 16), ratios([[16, 32]]))
        self.assertEqual(mixture(Team([[[1]]] * 7), list(range(7))), ratios([[21]]))
        self.fails_value(InvalidNumbers, None, mixture, Team([[[1]]] * 7), None)


class PlainRank(Case):
    def test_drawn_teams(self):
        for team in FEW:
            found = self.told(plain_rank, team)
            self.assert_count(found)
            self.assertEqual(plain_rank(team=team), found)
            if team.many <= 3 or (team.many <= 4 and min(team.tall, team.wide) <= 3):
                self.assertEqual(found, reference_plain_rank(team))

    def test_told_teams(self):
        self.assertEqual(plain_rank(sign_team()), 2)
        self.assertEqual(plain_rank(NARROW), 1)
        self.assertEqual(plain_rank(Team([[[0] * 4] * 3] * 6)), 0)
        self.assertEqual(plain_rank(Team([unit(4)])), 4)
        self.assertEqual(plain_rank(Team([[[0, 1], [0, 0]]])), 1)
        self.assertEqual(plain_rank(Team([[[1], [2], [3], [4]]])), 1)
        every = [[[int((i, j) == (k, k)) for j in range(4)] for i in range(4)] for k in range(4)]
        self.assertEqual(plain_rank(Team(every)), 4)
        self.assertEqual(plain_rank(Team(every[:3])), 3)
        self.assertEqual(plain_rank(Team(every + [[[0] * 4] * 4] * 2)), 4)
        self.assertEqual(plain_rank(pattern_team(3, 3, [(0, 0), (0, 1), (0, 2), (1, 0), (2, 0)])), 2)
        self.assertEqual(plain_rank(beside(sign_team(), Team([[[1]], [[0]], [[0]]]))), 3)
        # All six tables of four rows that turn their sign.
        turns = [[[int((i, j) == (a, b)) - int((i, j) == (b, a)) for j in range(4)] for i in range(4)]
                 for a in range(4) for b in range(a + 1, 4)]
        self.assertEqual(plain_rank(Team(turns)), 4)
        # The mixtures with 1 for each table do not show these.
        self.assertEqual(plain_rank(Team([[[1, 0], [0, 1]], [[-1, 0], [0, 0]], [[0, 0], [0, -1]]])), 2)
        self.assertEqual(plain_rank(Team([[[1, 0, 0], [0, 0, 0], [0, 0, 1]], [[0, 0, 0], [0, 1, 0], [0, 0, -1]]])), 3)

    def test_numbers_that_are_wanted(self):
        # The determinants are a b (a - b), and a b (a - b) times one more such part: nought at many numbers.
        one, two = [[1, 0, 0], [0, 0, 0], [0, 0, 1]], [[0, 0, 0], [0, 1, 0], [0, 0, -1]]
        self.assertEqual(plain_rank(Team([one, two])), 3)
        first = [[1, 0, 0, 0], [0, 0, 0, 0], [0, 0, 1, 0], [0, 0, 0, 1]]
        for far in (-2, -1, 1, 2, 3, Ratio(-1, 3), Ratio(1, 3), Ratio(-1, 2), -3):
            last = [[0, 0, 0, 0], [0, 1, 0, 0], [0, 0, -1, 0], [0, 0, 0, far]]
            self.assertEqual(plain_rank(Team([first, last])), 4)

    def test_facts(self):
        draw = Draw(81)
        for team in FEW:
            rank = plain_rank(team)
            self.assertEqual(plain_rank(upright(team)), rank)
            letters = in_letters(team, draw.room(team.tall, team.tall), draw.room(team.wide, team.wide))
            self.assertEqual(plain_rank(letters), rank)
            for room in draw.rooms(team.wide):
                self.assertLessEqual(rank, team.wide - loss(team, room))

    def test_wrong_values(self):
        for value in NO_TEAMS:
            self.fails_value(InvalidTeam, value, plain_rank, value)
            self.fails_value(InvalidTeam, value, plain_paper, value)
            self.fails_value(InvalidTeam, value, is_plain_paper, value, [1])
            self.fails_value(InvalidTeam, value, is_plain_paper, value, None)

    def test_more_than_six_tables(self):
        for many in (7, 8, 16):
            team = Team([[[1]]] * many)
            for call in (lambda: plain_rank(team), lambda: plain_paper(team), lambda: is_plain_paper(team, [1] * many),
                         lambda: is_plain_paper(team=team, value=None)):
                with self.assertRaises(TooMany) as held:
                    call()
                self.assertIs(held.exception.__class__, TooMany)
                self.assertEqual((held.exception.what, held.exception.limit), ("tables", 6))
        self.assertEqual(plain_rank(Team([[[1]]] * 6)), 1)


class PlainPapers(Case):
    def test_the_told_paper_is_one(self):
        for team in FEW:
            found = self.told(plain_paper, team)
            self.assert_ratios([found])
            self.assertEqual(len(found), team.many)
            self.assertIs(self.told(is_plain_paper, team, found), True)
            self.assertIs(is_plain_paper(value=tuple(found), team=team), True)
            self.assertEqual(reference_rank(mixture(team, found)), plain_rank(team))
            self.assertEqual(plain_paper(team=team), found)

    def test_drawn_papers(self):
        draw = Draw(82)
        seen = []
        for team in FEW:
            for _ in range(3):
                numbers = [draw.count(0, 1) * draw.number() for _ in range(team.many)]
                right = reference_rank(mixture(team, numbers)) == plain_rank(team)
                self.assertIs(is_plain_paper(team, numbers), right)
                seen.append(right)
        self.assertIn(True, seen)
        self.assertIn(False, seen)
        self.assertIs(is_plain_paper(Team([[[0]]]), [0]), True)
        self.assertIs(is_plain_paper(Team([[[1]]]), [0]), False)
        self.assertIs(is_plain_paper(NARROW, [0, Ratio(1, 2)]), True)
        self.assertIs(is_plain_paper(NARROW, [0, 0]), False)

    def test_values_that_are_none(self):
        for team in (NARROW, Team([[[0, 0]], [[0, 0]]])):
            for value in NO_LISTS + [[], (), [1], [1, 2, 3], [1, True], [1, "1"], [1, [1]], [[1, 2]], {0: 1, 1: 1}, "12",
                                     range(2), Ratio(1), [[1], [1]], [[[1]], [[1]]]]:
                self.assertIs(is_plain_paper(team, value), False)


if __name__ == "__main__":
    unittest.main()
