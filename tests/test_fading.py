"""Fading papers, and teams that are led near to nought by them."""

import unittest
from fractions import Fraction

from shrunkrooms.errors import InvalidNumber, InvalidPaper, InvalidTeam, NotSquare
from shrunkrooms.fading import faded, fading, is_fading
from shrunkrooms.lacks import free_helpers, lack
from shrunkrooms.makers import in_letters, pattern_team, sign_team
from shrunkrooms.ratios import Ratio
from shrunkrooms.staying import is_staying, stay, volume
from shrunkrooms.teams import Team
from tests.drawn_teams import NO_TEAMS, draw_team, in_drawn_letters, lossy_team, teams, teams_of_all_sides
from tests.test_tables import reference_determinant
from tests.tools import (NO_LISTS, NO_NUMBERS, NO_TABLES, Case, Draw, about, digits_in, fraction, fractions, other_kinds,
                         product, ratios, tupled, unit)

ONE = [[1, 0], [0, 1]]
FALLS = Team([[[1, 0], [0, 0]], [[0, 1], [0, 0]]])
PAPER = (ONE, ONE, [1, -1], [0, 0])
NOT_SQUARE = [Team([[[1, 2]]]), Team([[[1], [2]]]), Team([[[0, 0, 0], [0, 0, 0]]]), Team([unit(4)[:3]] * 16),
              Team([[row[:3] for row in unit(4)]])]
# No fading papers of any team, whatever its sides.
NO_PAPERS = NO_LISTS + NO_TABLES + [[], (), (ONE,), (ONE, ONE), (ONE, ONE, [1, -1]), (None,) * 4, ([], [], [], []),
                                    ((), (), (), ()), (0, 0, 0, 0), ([[1]], [[1]], [], []), {0: ONE}, "1234", [[1]] * 4]


def square_teams():
    draw = Draw(250)
    found = [team for team in teams() + teams_of_all_sides() if team.tall == team.wide]
    for side in (1, 2, 3, 4):
        found.append(Team([[[0] * side] * side]))
        found.append(Team([[[0] * side] * side] * 16))
        for _ in range(6):
            found += [lossy_team(draw, draw.count(1, 5), side, side), draw_team(draw, None, side, side),
                      Team([draw.sparse(side, side) for _ in range(draw.count(1, 3))])]
    found.append(Team([draw.made_rows(4, 4, 1)]))
    return found + [in_drawn_letters(draw, sign_team())[0], pattern_team(2, 2, [(0, 0), (1, 1)])]


SQUARE = square_teams()
FADING = [team for team in SQUARE if lack(team) > 0]


def reference_fades(team, paper):
    """Whether the numbers of all tables in the letters are 0 wherever the exponents together are below 1."""
    left, right, rows, places = paper
    return all(number.sign == 0 or rows[i] + places[j] >= 1 for table in team.tables()
               for i, row in enumerate(product(product(left, table), right)) for j, number in enumerate(row))


def reference_faded(team, paper, number):
    left, right, rows, places = paper
    tables = []
    for table in team.tables():
        led = fractions(product(product(left, table), right))
        tables.append(ratios([[worth * fraction(number) ** (rows[i] + places[j]) if worth else Fraction(0)
                               for j, worth in enumerate(row)] for i, row in enumerate(led)]))
    return Team(tables)


def with_part(paper, at, part):
    return paper[:at] + (part,) + paper[at + 1:]


class Told(Case):
    def check(self, team):
        """The told paper of a team that fades."""
        side = team.wide
        found = self.told(fading, team)
        self.assertIs(found.__class__, tuple)
        left, right, rows, places = found
        for table in (left, right):
            self.assert_ratios(table)
            self.assertEqual((len(table), [len(row) for row in table]), (side, [side] * side))
            self.assertEqual(reference_determinant(table), Ratio(1))
            self.assertLess(digits_in(table), 2000)
        for exponents in (rows, places):
            self.assertIs(exponents.__class__, list)
            self.assertEqual((len(exponents), sum(exponents)), (side, 0))
            for exponent in exponents:
                self.assertIs(exponent.__class__, int)
                self.assertTrue(-9 <= exponent <= 9)
        self.assertTrue(reference_fades(team, found))
        self.assertEqual(fading(team=team), found)
        self.assertIs(self.told(is_fading, team, found), True)
        letters = tuple(other_kinds(table) for table in found[:2])
        self.assertIs(is_fading(value=letters + found[2:], team=team), True)
        self.assertIs(is_fading(team, tupled(list(found))), True)
        return found

    def test_square_teams(self):
        seen = set()
        for team in SQUARE:
            lost = lack(team)
            seen.add((team.wide, lost))
            if lost > 0:
                self.check(team)
            else:
                self.assertIsNone(self.told(fading, team))
        self.assertLessEqual({(side, lost) for side in (1, 2, 3, 4) for lost in range(side + 1)}, seen)

    def test_known_losses(self):
        draw = Draw(251)
        for side in (2, 3, 4):
            for near in range(1, side + 1):
                for far in range(near):
                    tables = [[[0 if place < near and row >= far else draw.number(3) for place in range(side)]
                               for row in range(side)] for _ in range(4)]
                    self.check(Team(tables))
                    self.check(in_drawn_letters(draw, Team(tables))[0])

    def test_numbers_with_many_digits(self):
        draw = Draw(252)
        for _ in range(5):
            tables = [[[0 if place < 2 and row >= 1 else Ratio(draw.integer(999999), draw.count(1, 999999))
                        for place in range(4)] for row in range(4)] for _ in range(3)]
            letters = [[[Ratio(draw.integer(999999), draw.count(1, 999999)) for _ in range(4)] for _ in range(4)]
                       for _ in range(2)]
            self.check(in_letters(Team(tables), *letters))

    def test_either_fades_or_stays(self):
        draw = Draw(253)
        for team in SQUARE:
            paper, helpers = fading(team), free_helpers(team)
            self.assertIs(paper is not None, lack(team) > 0)
            self.assertIs(is_staying(team, helpers), paper is None)
            for k in (1, 2, 3):
                drawn = [[[draw.integer(9) for _ in range(k)] for _ in range(k)] for _ in range(team.many)]
                if paper is not None:
                    self.assertIs(is_staying(team, drawn), False)
                    self.assertEqual(stay(team, drawn), Ratio(0))
            if paper is None:
                for other in map(fading, FADING[:40:3]):
                    self.assertIs(is_fading(team, other), False)


class Judged(Case):
    def test_great_exponents(self):
        for paper in [(ONE, ONE, [99, -99], [0, 0]), (ONE, ONE, [1, -1], [0, 0]), (ONE, ONE, [999999, -999999], [-2, 2]),
                      (ONE, ONE, [10, -10], [-9, 9]), (ONE, [[1, 5], [0, 1]], [2, -2], [1, -1]),
                      ([[1, 0], [Ratio(3, 7), 1]], ONE, [0, 0], [0, 0]), ([[2, 1], [0, Ratio(1, 2)]], ONE, [5, -5], [4, -4]),
                      ([[0, 1], [-1, 0]], ONE, [-3, 3], [1, -1]), ([[0, 1], [-1, 0]], ONE, [3, -3], [1, -1]),
                      (ONE, [[0, -1], [1, 0]], [1, -1], [0, 0]), (ONE, ONE, [1, -1], [-1, 1]), (ONE, ONE, [2, -2], [2, -2])]:
            self.assertIs(is_fading(FALLS, paper), reference_fades(FALLS, paper), paper)
        self.assertIs(is_fading(FALLS, (ONE, ONE, [999999, -999999], [-2, 2])), True)
        self.assertIs(is_fading(FALLS, (ONE, ONE, [2, -2], [2, -2])), False)
        self.assertIs(is_fading(Team([[[0]]]), ([[1]], [[1]], [0], [0])), True)
        self.assertIs(is_fading(Team([[[0] * 2] * 2]), (ONE, ONE, [9, -9], [-50, 50])), True)

    def test_papers_with_one_thing_otherwise(self):
        for team in FADING:
            paper = fading(team)
            side = team.wide
            self.assertIs(is_fading(team, list(paper)), False)
            self.assertIs(is_fading(team, paper[:3]), False)
            self.assertIs(is_fading(team, paper + ([0] * side,)), False)
            self.assertIs(is_fading(team, (paper,)), False)
            for at in range(4):
                self.assertIs(is_fading(team, with_part(paper, at, tuple(paper[at]))), True)
                self.assertIs(is_fading(team, with_part(paper, at, None)), False)
                self.assertIs(is_fading(team, with_part(paper, at, paper[at][:-1])), False)
                self.assertIs(is_fading(team, with_part(paper, at, list(paper[at]) + [paper[at][0]])), False)
            for at in (0, 1):
                for factor in (-1, 2, Ratio(1, 3), 0):
                    if factor == -1 and side % 2 == 0:
                        continue
                    times = [[number * factor for number in row] for row in paper[at]]
                    self.assertIs(is_fading(team, with_part(paper, at, times)), False)
                turned_sign = [[-number for number in paper[at][0]], *paper[at][1:]]
                self.assertIs(is_fading(team, with_part(paper, at, turned_sign)), False)
                self.assertIs(is_fading(team, with_part(paper, at, [row[:-1] for row in paper[at]])), False)
                if side in (2, 3):
                    self.assertIs(is_fading(team, with_part(paper, at, paper[at][::-1])), False)
            for at in (2, 3):
                one = list(paper[at])
                self.assertIs(is_fading(team, with_part(paper, at, [one[0] + 1] + one[1:])), False)
                self.assertIs(is_fading(team, with_part(paper, at, [one[0] - 1] + one[1:])), False)
                self.assertIs(is_fading(team, with_part(paper, at, [Ratio(number) for number in one])), False)
                self.assertIs(is_fading(team, with_part(paper, at, [Ratio(one[0])] + one[1:])), False)
                self.assertIs(is_fading(team, with_part(paper, at, [str(number) for number in one])), False)
                self.assertIs(is_fading(team, with_part(paper, at, [[number] for number in one])), False)

    def test_exponents_that_are_no_integers(self):
        self.assertIs(is_fading(FALLS, (ONE, ONE, (1, -1), (0, 0))), True)
        for rows, places in [([True, -1], [0, 0]), ([1, -1], [False, 0]), ([1, -1], [0, False]), ([1, -1], [Ratio(0), 0]),
                             ([Ratio(1), Ratio(-1)], [0, 0]), ([1, Ratio(-1)], [0, 0]), (["1", -1], [0, 0]), ([1, -1], "00"),
                             ([1, -1], [None, None]), ([1, -1], None), ([1, -1], {0: 0, 1: 0}), ([[1, -1]], [0, 0]),
                             ([1, -1, 0], [0, 0]), ([1, -1], [0]), ([1, -1], [0, 0, 0]), ([1], [0, 0]), ([1, -1], [0, 1]),
                             ([2, -1], [0, 0]), ([1, -1], [-1, 0]), ([], []), ([1, -1], [])]:
            self.assertIs(is_fading(FALLS, (ONE, ONE, rows, places)), False, (rows, places))

    def test_a_number_too_small_at_one_place(self):
        for exponents, told in [(([1, -1], [0, 0]), True), (([1, -1], [1, -1]), False), (([1, -1], [-1, 1]), False),
                                (([2, -2], [1, -1]), True), (([2, -2], [2, -2]), False), (([0, 0], [0, 0]), False)]:
            self.assertIs(is_fading(FALLS, (ONE, ONE, *exponents)), told)
        small = Team([[[1, 0], [Ratio(1, 999999), 0]]])
        self.assertIs(is_fading(small, PAPER), False)
        self.assertIs(is_fading(small, (ONE, ONE, [0, 0], [1, -1])), True)
        self.assertIs(is_fading(Team([[[1, 0], [0, 0]]] * 15 + [[[0, 0], [1, 0]]]), PAPER), False)
        self.assertIs(is_fading(Team([[[1, 0], [0, 0]]] * 15 + [[[0, 1], [0, 0]]]), PAPER), True)
        # Two numbers that cancel one another in the letters.
        self.assertIs(is_fading(Team([[[1, 1], [-1, -1]]]), ([[1, 0], [1, 1]], ONE, [1, -1], [0, 0])), True)
        self.assertIs(is_fading(Team([[[1, 1], [-1, -1]]]), PAPER), False)

    def test_any_value(self):
        for value in NO_PAPERS:
            for team in (FALLS, Team([[[0]]]), Team([unit(3)])):
                self.assertIs(is_fading(team, value), False, value)
                self.assertIs(is_fading(value=value, team=team), False, value)
        for value in NO_TABLES + [[], (), unit(3), [[1]], [[2, 0], [0, 1]], [[1, 1], [1, 1]], [[0, 0], [0, 0]], [[0, 1], [1, 0]],
                                  [[True, 0], [0, 1]], [[1, 0], [0, "1"]], [[1, 0], [0, Ratio(-1)]], [[1, 0], "01"], [[1, 0]]]:
            self.assertIs(is_fading(FALLS, (value, ONE, [1, -1], [0, 0])), False, value)
            self.assertIs(is_fading(FALLS, (ONE, value, [1, -1], [0, 0])), False, value)
        self.assertIs(is_fading(FALLS, (ratios(ONE), tupled(ONE), [1, -1], (0, 0))), True)

    def test_teams_of_lack_0_have_none(self):
        draw = Draw(254)
        for team in SQUARE:
            if lack(team) == 0:
                for _ in range(10):
                    rows = [draw.integer(9) for _ in range(team.wide - 1)]
                    places = [draw.integer(9) for _ in range(team.wide - 1)]
                    paper = (unit(team.wide), unit(team.wide), rows + [-sum(rows)], places + [-sum(places)])
                    self.assertIs(is_fading(team, paper), False)


class Faded(Case):
    def test_told_papers(self):
        numbers = [1, -1, 2, -3, Ratio(1, 2), Ratio(-2, 3), Ratio(7), Ratio(999999, 1000)]
        for at, team in enumerate(FADING):
            paper = fading(team)
            for number in numbers[at % 2::2]:
                found = self.told(faded, team, paper, number)
                self.assertIs(found.__class__, Team)
                self.assertEqual(found, reference_faded(team, paper, number))
                self.assertEqual(faded(number=number, paper=tupled(list(paper)), team=team), found)
            self.assertEqual(faded(team, paper, 1), in_letters(team, paper[0], paper[1]))
            self.assertEqual(faded(team, paper, 2), faded(team, paper, Ratio(2)))

    def test_nearer_and_nearer(self):
        for team in FADING:
            paper = fading(team)
            one, less = faded(team, paper, 1), faded(team, paper, Ratio(1, 1000))
            for table, small in zip(one.tables(), less.tables()):
                for row, small_row in zip(table, small):
                    for number, other in zip(row, small_row):
                        self.assertTrue((other * 1000).unsigned().is_at_most(number.unsigned()))

    def test_exponents_below_0(self):
        # At the place of the number 0 both exponents together are below 0.
        paper = (ONE, ONE, [3, -3], [-1, 1])
        self.assertEqual(faded(FALLS, paper, 2), Team([[[4, 0], [0, 0]], [[0, 16], [0, 0]]]))
        self.assertEqual(faded(FALLS, paper, Ratio(-1, 2)), Team([[[Ratio(1, 4), 0], [0, 0]], [[0, Ratio(1, 16)], [0, 0]]]))
        self.assertEqual(faded(FALLS, (ONE, ONE, [999999, -999999], [-1, 1]), -1), FALLS)
        self.assertEqual(faded(FALLS, (ONE, ONE, [999998, -999998], [-1, 1]), -1),
                         Team([[[-1, 0], [0, 0]], [[0, -1], [0, 0]]]))
        self.assertEqual(faded(Team([[[0] * 2] * 2]), (ONE, ONE, [-5, 5], [-7, 7]), 3), Team([[[0] * 2] * 2]))
        self.assertEqual(faded(FALLS, (ONE, ONE, [1000, -1000], [0, 0]), 10),
                         Team([[[10 ** 1000, 0], [0, 0]], [[0, 10 ** 1000], [0, 0]]]))
        self.assertEqual(faded(FALLS, (ONE, [[2, 1], [1, 1]], [8, -8], [7, -7]), Ratio(2)),
                         Team([[[2 ** 16, 2], [0, 0]], [[2 ** 15, 2], [0, 0]]]))

    def test_the_number_that_stays(self):
        # Powers are letters of volume 1: so the volume of a crossed sum, 0 here, is the same behind them.
        helpers = [[[1, 2], [3, 4]], [[0, 1], [1, 1]]]
        self.assertEqual(stay(faded(FALLS, PAPER, 3), helpers), stay(FALLS, helpers))

    def test_no_papers(self):
        for value in NO_PAPERS + [list(PAPER), with_part(PAPER, 2, [2, -1]), with_part(PAPER, 3, [True, -1]),
                                  with_part(PAPER, 0, [[2, 0], [0, 1]]), PAPER[:3], (ONE, ONE, [0, 0], [0, 0])]:
            self.fails_value(InvalidPaper, value, faded, FALLS, value, 2)
            self.fails_value(InvalidPaper, value, faded, FALLS, value, 0)
            self.fails_value(InvalidPaper, value, faded, number=None, paper=value, team=FALLS)
        for value in (PAPER, None, (unit(3), unit(3), [1, 0, -1], [0, 0, 0])):
            self.fails_value(InvalidPaper, value, faded, Team([ONE]), value, 2)

    def test_no_numbers(self):
        for value in NO_NUMBERS + [0, Ratio(0), Ratio(0, 5)]:
            self.fails_value(InvalidNumber, value, faded, FALLS, PAPER, value)
            self.fails_value(InvalidNumber, value, faded, number=value, paper=fading(FALLS), team=FALLS)

    def test_teams_that_are_not_square(self):
        # No value is a paper of these.
        for team in NOT_SQUARE:
            for value in (PAPER, None, [], (unit(team.tall), unit(team.wide), [0] * team.tall, [0] * team.wide)):
                self.fails_value(InvalidPaper, value, faded, team, value, 2)
                self.fails_value(InvalidPaper, value, faded, team, value, 0)


class Errors(Case):
    def test_no_teams(self):
        for value in NO_TEAMS:
            self.fails_value(InvalidTeam, value, fading, value)
            self.fails_value(InvalidTeam, value, fading, team=value)
            self.fails_value(InvalidTeam, value, is_fading, value, None)
            self.fails(InvalidTeam, {"value": value}, is_fading, value=PAPER, team=value)
            self.fails_value(InvalidTeam, value, faded, value, None, 0)
            self.fails_value(InvalidTeam, value, faded, number=1, paper=PAPER, team=value)

    def test_not_square(self):
        for team in NOT_SQUARE:
            self.fails(NotSquare, {}, fading, team)
            self.fails(NotSquare, {}, fading, team=team)
            for value in (PAPER, None, 0, []):
                self.fails(NotSquare, {}, is_fading, team, value)
                self.fails(NotSquare, {}, is_fading, value=value, team=team)

    def test_volumes_of_letters(self):
        for team in FADING:
            left, right, _, _ = fading(team)
            self.assertEqual([volume(left), volume(right)], [Ratio(1), Ratio(1)])
            self.assertEqual(volume(about(left)), Ratio(1))


if __name__ == "__main__":
    unittest.main()
