"""Plain gaps, sign teams and their letters."""

import unittest

from shrunkrooms.errors import InvalidTeam, TooMany
from shrunkrooms.helpers import crossed_rank
from shrunkrooms.lacks import free_rank, lack
from shrunkrooms.makers import beside, in_letters, pairs_team, pattern_team, remixed, sign_team, upright, with_table, without
from shrunkrooms.plain import plain_rank
from shrunkrooms.ratios import Ratio
from shrunkrooms.signs import is_sign_letters, is_signs, plain_gap, sign_letters
from shrunkrooms.tables import determinant, undone
from shrunkrooms.teams import Team
from tests.drawn_teams import NO_TEAMS, draw_team, in_drawn_letters, lossy_team, teams
from tests.tools import NO_TABLES, Case, Draw, digits_in, other_kinds, product, ratios, reference_rank, tupled, unit

SIGNS = sign_team()
ONE_TO_THREE = [[1, 0, 0], [0, 2, 0], [0, 0, 3]]


def flat_rank(team):
    return reference_rank([[number for row in table for number in row] for table in team.tables()])


def turns_sign(table):
    return all(table[i][j] + table[j][i] == Ratio(0) for i in range(3) for j in range(3))


def sign_teams(seed):
    """The sign team in drawn letters, mixed anew, with tables more that are made of the others; and its right letters."""
    draw = Draw(seed)
    for at in range(30):
        left, right = draw.room(3, 3), draw.room(3, 3)
        team = in_letters(SIGNS, left, right)
        if at % 3 == 1:
            team = remixed(team, draw.room(3, 3))
        elif at % 3 == 2:
            team = remixed(team, draw.room(3, 3) + draw.rows(draw.count(1, 13), 3))
        yield draw, team, left, right


def no_sign_teams():
    """Teams of three by three that are no sign teams, of many ranks, also with tables that turn their sign."""
    draw = Draw(241)
    one, two, three = SIGNS.tables()
    found = [Team([one]), Team([one, two]), Team([one, two, one]), Team([unit(3)] * 3), Team([[[0] * 3] * 3]),
             Team([one, two, unit(3)]), Team([one, two, three, unit(3)]), Team([one, two, ONE_TO_THREE]),
             pattern_team(3, 3, [(0, 0), (1, 1), (2, 2)]), pattern_team(3, 3, [(0, 1), (1, 2), (2, 0)]),
             # Turned-sign but for one number, or for one sign.
             Team([one, two, [[0, 0, 0], [0, 0, 1], [0, 1, 0]]]), Team([one, two, [[0, 0, 0], [0, 0, 1], [0, -2, 0]]]),
             Team([one, two, [[0, 0, 0], [0, 0, 1], [0, -1, 1]]]),
             # Each table alone turns its sign by some letters, but no letters serve for all.
             Team([one, two, product(ONE_TO_THREE, three)]), Team([one, product(ONE_TO_THREE, two), three])]
    found += [in_letters(Team([one, two, unit(3)]), draw.room(3, 3), draw.room(3, 3)) for _ in range(3)]
    found += [Team([draw.rows(3, 3) for _ in range(3)]) for _ in range(6)]
    found += [Team([draw.sparse(3, 3) for _ in range(3)]) for _ in range(20)]
    found += [lossy_team(draw, draw.count(2, 5), 3, 3) for _ in range(10)]
    found += [remixed(SIGNS, draw.made_rows(4, 3, 2)) for _ in range(3)]
    # Symmetric tables, and what leads three places into two far ones.
    found += [Team([[[1, 0, 0], [0, 0, 0], [0, 0, 0]], [[0, 1, 0], [1, 0, 0], [0, 0, 0]], [[0, 0, 1], [0, 0, 0], [1, 0, 0]]]),
              Team([[row, [0] * 3, [0] * 3] for row in unit(3)]), Team([[[number, 0, 0] for number in row] for row in unit(3)])]
    return found


class Gap(Case):
    def check(self, team, told=None):
        found = self.told(plain_gap, team)
        self.assert_count(found)
        self.assertEqual(found, free_rank(team) - plain_rank(team))
        self.assertEqual(plain_gap(team=team), found)
        if told is not None:
            self.assertEqual(found, told)
        return found

    def test_one_table_and_two(self):
        draw = Draw(240)
        for many in (1, 2):
            for tall in (1, 2, 3, 4):
                for wide in (1, 2, 3, 4):
                    self.check(draw_team(draw, many, tall, wide), 0)
                    self.check(Team([draw.sparse(tall, wide) for _ in range(many)]), 0)
                    self.check(lossy_team(draw, many, tall, wide), 0)

    def test_boards_and_pairs(self):
        draw = Draw(242)
        for _ in range(30):
            tall, wide, many = draw.count(1, 4), draw.count(1, 4), draw.count(1, 6)
            spots = [(i, j) for i in range(tall) for j in range(wide)]
            self.check(pattern_team(tall, wide, sorted(draw.random.sample(spots, min(many, len(spots))))), 0)
            self.check(pairs_team(draw.sparse(many, tall), draw.sparse(many, wide)), 0)

    def test_sign_teams(self):
        for _, team, _, _ in sign_teams(243):
            if team.many <= 6:
                self.check(team, 1)

    def test_drawn_teams(self):
        seen = [self.check(team) for team in teams() if team.many <= 6]
        self.assertIn(0, seen)
        for team in [beside(SIGNS, Team([[[1]], [[0]], [[0]]])), beside(SIGNS, Team([[[0]]] * 3)), upright(SIGNS),
                     Team([table + [[0] * 3] for table in SIGNS.tables()])]:
            self.check(team, 1)
        turns = [[[int((i, j) == (a, b)) - int((i, j) == (b, a)) for j in range(4)] for i in range(4)]
                 for a in range(4) for b in range(a + 1, 4)]
        self.check(Team(turns), 0)
        self.check(Team(turns[:3]))

    def test_of_three_by_three_just_the_sign_teams(self):
        for team in no_sign_teams():
            if team.many <= 6:
                self.check(team, 0)

    def test_at_most_the_plain_rank(self):
        for team in teams():
            if team.many <= 6:
                self.assertLessEqual(free_rank(team), 2 * plain_rank(team))
                if free_rank(team) <= 2:
                    self.check(team, 0)

    def test_too_many_tables(self):
        for many in (7, 8, 16):
            for team in (Team([[[1]]] * many), Team((SIGNS.tables() * 6)[:many])):
                self.fails(TooMany, {"what": "tables", "limit": 6}, plain_gap, team)
                self.fails(TooMany, {"what": "tables", "limit": 6}, plain_gap, team=team)
        self.check(Team([[[1]]] * 6), 0)
        self.check(Team(SIGNS.tables() * 2), 1)


class SignTeams(Case):
    def test_sign_teams(self):
        two = [[[1, 0], [0, 1]], [[0, 1], [0, 0]], [[0, 0], [1, 0]]]
        for draw, team, left, right in sign_teams(244):
            self.assertIs(self.told(is_signs, team), True)
            self.assertIs(is_signs(team=team), True)
            found = self.told(sign_letters, team)
            self.assert_ratios(found)
            self.assertEqual((len(found), len(found[0])), (3, 3))
            self.assertNotEqual(determinant(found), Ratio(0))
            for table in team.tables():
                self.assertTrue(turns_sign(product(found, table)))
            self.assertEqual(sign_letters(team=team), found)
            self.assertLess(digits_in(found), 2000)
            self.assertIs(self.told(is_sign_letters, team, found), True)
            # The left letters back, and the right ones turned about put ahead.
            told = product([list(row) for row in zip(*right)], undone(left))
            self.assertIs(is_sign_letters(team, told), True)
            self.assertEqual(lack(team), 0)
            self.assertEqual(crossed_rank(in_letters(SIGNS, left, right), two), 6)
            self.assertEqual(reference_rank([sum(found, []), sum(told, [])]), 1)

    def test_no_sign_teams(self):
        for team in no_sign_teams():
            self.assertIs(self.told(is_signs, team), False)
            self.assertIsNone(sign_letters(team))
            for value in (unit(3), ONE_TO_THREE, None, [], [[0] * 3] * 3):
                self.assertIs(is_sign_letters(team, value), False)
        self.assertEqual({flat_rank(team) for team in no_sign_teams()} >= {0, 1, 2, 3, 4}, True)

    def test_other_sides(self):
        draw = Draw(245)
        for tall in (1, 2, 3, 4):
            for wide in (1, 2, 3, 4):
                if (tall, wide) != (3, 3):
                    for team in (draw_team(draw, None, tall, wide), Team([[[0] * wide] * tall] * 3)):
                        self.assertIs(is_signs(team), False)
                        self.assertIsNone(sign_letters(team))
                        self.assertIs(is_sign_letters(team, unit(3)), False)
                        self.assertIs(is_sign_letters(team, unit(tall)), False)
        taller = Team([table + [[0] * 3] for table in SIGNS.tables()])
        self.assertIs(is_signs(taller), False)
        self.assertIs(is_sign_letters(taller, unit(3)), False)
        self.assertIs(is_signs(beside(SIGNS, Team([[[0]]] * 3))), False)

    def test_one_table_more_or_less(self):
        for at in range(3):
            self.assertIs(is_signs(without(SIGNS, at)), False)
        self.assertIs(is_signs(with_table(SIGNS, [[0, 5, 2], [-5, 0, -1], [-2, 1, 0]])), True)
        self.assertIs(is_signs(with_table(SIGNS, [[0, 5, 2], [-5, 0, -1], [-2, 1, 1]])), False)
        self.assertIs(is_signs(with_table(SIGNS, [[0, 5, 2], [5, 0, 1], [2, 1, 0]])), False)
        self.assertIs(is_signs(Team(SIGNS.tables() * 5)), True)
        self.assertIs(is_signs(upright(SIGNS)), True)

    def test_numbers_with_many_digits(self):
        draw = Draw(246)
        for _ in range(4):
            letters = [[[Ratio(draw.integer(999999), draw.count(1, 999999)) for _ in range(3)] for _ in range(3)]
                       for _ in range(2)]
            team = in_letters(SIGNS, *letters)
            self.assertIs(is_signs(team), True)
            self.assertIs(is_sign_letters(team, sign_letters(team)), True)
            self.assertLess(digits_in(sign_letters(team)), 2000)
            self.assertEqual(plain_gap(team), 1)


class Judged(Case):
    def test_multiples_and_one_number_otherwise(self):
        for draw, team, _, _ in sign_teams(247):
            found = sign_letters(team)
            for factor in (1, -1, 7, Ratio(-2, 9)):
                times = [[number * factor for number in row] for row in found]
                self.assertIs(is_sign_letters(team, times), True)
                self.assertIs(is_sign_letters(value=tupled(times), team=team), True)
                self.assertIs(is_sign_letters(team, other_kinds(times)), True)
                self.assertIs(is_sign_letters(team, [times[0], tuple(times[1]), times[2]]), True)
            for i in range(3):
                for j in range(3):
                    bent = [list(row) for row in found]
                    bent[i][j] = bent[i][j] + draw.random.choice([1, -1, Ratio(1, 5)])
                    self.assertIs(is_sign_letters(team, bent), False)
            self.assertIs(is_sign_letters(team, [[number * 0 for number in row] for row in found]), False)
            self.assertIs(is_sign_letters(team, found[:2]), False)
            self.assertIs(is_sign_letters(team, found + [found[0]]), False)
            self.assertIs(is_sign_letters(team, [row[:2] for row in found]), False)
            self.assertIs(is_sign_letters(team, [row + [0] for row in found]), False)

    def test_any_value(self):
        for value in NO_TABLES + [[], (), unit(2), unit(4), [[1]], ONE_TO_THREE, [[0] * 3] * 3, [[1] * 3] * 3, SIGNS,
                                  SIGNS.tables(), [[True, 0, 0], [0, 1, 0], [0, 0, 1]], [[1, False, 0], [0, 1, 0], [0, 0, 1]],
                                  [[1, 0, 0], [0, 1, 0], [0, 0, "1"]], [[1, 0, 0], [0, 1, 0], [0, 0, None]],
                                  [[1, 0, 0], [0, 1, 0], "001"], [[1, 0, 0], [0, 1, 0], [0, 0, 1], []], [unit(3)], (unit(3),),
                                  [[0, 1, 0], [0, 0, 1], [1, 0, 0]], {0: [1, 0, 0], 1: [0, 1, 0], 2: [0, 0, 1]}]:
            for team in (SIGNS, Team([unit(3)] * 3), Team([[[1]]])):
                self.assertIs(is_sign_letters(team, value), False, value)
        mixed = [[1, Ratio(0), 0], (0, Ratio(1), 0), [0, 0, Ratio(5, 5)]]
        self.assertIs(is_sign_letters(SIGNS, mixed), True)
        self.assertEqual(mixed, [[1, Ratio(0), 0], (0, Ratio(1), 0), [0, 0, Ratio(1)]])
        self.assertIs(is_sign_letters(SIGNS, ratios(unit(3))), True)


class Errors(Case):
    def test_no_teams(self):
        for value in NO_TEAMS:
            for function in (plain_gap, is_signs, sign_letters):
                self.fails_value(InvalidTeam, value, function, value)
                self.fails_value(InvalidTeam, value, function, team=value)
            self.fails_value(InvalidTeam, value, is_sign_letters, value, None)
            self.fails(InvalidTeam, {"value": value}, is_sign_letters, value=unit(3), team=value)


if __name__ == "__main__":
    unittest.main()
