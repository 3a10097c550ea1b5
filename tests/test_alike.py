"""Teams that are alike."""

import unittest

from shrunkrooms.alike import alike, is_alike
from shrunkrooms.errors import InvalidTeam, NotSimple, TooMany, UnlikeMany
from shrunkrooms.lacks import is_full
from shrunkrooms.makers import beside, in_letters, pattern_team, sign_team, upright
from shrunkrooms.ratios import Ratio
from shrunkrooms.tables import table_rank, undone
from shrunkrooms.teams import Team
from tests.drawn_teams import NO_TEAMS, SIMPLE, draw_team, full_teams, in_drawn_letters, teams
from tests.test_blocks import CORNER, FOURS
from tests.test_tight import NOT_FULL
from tests.tools import NO_TABLES, Case, Draw, digits_in, other_kinds, product, ratios, tupled, unit

SIMPLE_TEAMS = [Team(tables) for size in (1, 2, 3) for tables in SIMPLE[size]]


def leads(team, other, left, right):
    return all(product(left, table) == product(fellow, right) for table, fellow in zip(team.tables(), other.tables()))


class Alike(Case):
    def check(self, team, other):
        found = self.told(alike, team, other)
        self.assertIs(found.__class__, tuple)
        left, right = found
        for table, size in ((left, team.tall), (right, team.wide)):
            self.assert_ratios(table)
            self.assertEqual((len(table), len(table[0]), table_rank(table)), (size, size, size))
        self.assertTrue(leads(team, other, left, right))
        self.assertIs(self.told(is_alike, team, other, found), True)
        self.assertIs(is_alike(value=found, other=other, team=team), True)
        self.assertEqual(alike(other=other, team=team), found)
        return found

    def test_itself_and_itself_in_letters(self):
        draw = Draw(190)
        for team in SIMPLE_TEAMS:
            self.check(team, team)
            for _ in range(5):
                left, right = draw.room(team.tall, team.tall), draw.room(team.wide, team.wide)
                other = in_letters(team, left, right)
                self.check(team, other)
                self.check(other, team)
                self.check(other, in_drawn_letters(draw, team)[0])
                self.assertIs(is_alike(team, other, (left, undone(right))), True)

    def test_unlike_ones(self):
        draw = Draw(191)
        for team in SIMPLE_TEAMS:
            for other in SIMPLE_TEAMS:
                if other is not team:
                    moved = in_drawn_letters(draw, other)[0]
                    self.assertIsNone(self.told(alike, team, moved))
                    self.assertIsNone(alike(moved, team))

    def test_unlike_by_one_number(self):
        one = unit(2)
        def turns(number):
            return Team([one, [[0, number], [1, 0]]])
        # Their further numbers are the roots of 2 and of 8: the one twice the other, no fraction times it.
        self.assertIsNone(alike(turns(2), turns(8)))
        self.assertIsNone(alike(turns(2), turns(3)))
        self.check(turns(2), Team([one, [[0, 1], [2, 0]]]))
        self.check(turns(2), Team([one, [[2, 2], [-1, -2]]]))
        self.assertIsNone(alike(turns(2), Team([one, [[1, 2], [1, 1]]])))
        self.check(turns(2), Team([[[3, 0], [0, 3]], [[0, 6], [3, 0]]]))
        self.assertIsNone(alike(turns(2), Team([[[3, 0], [0, 3]], [[0, 2], [1, 0]]])))
        self.assertIsNone(alike(Team([[[1]], [[2]]]), Team([[[1]], [[3]]])))
        self.check(Team([[[1]], [[2]]]), Team([[[-3]], [[-6]]]))
        self.assertIsNone(alike(Team([[[1]], [[0]]]), Team([[[0]], [[1]]])))

    def test_upright_sign_team(self):
        self.check(sign_team(), upright(sign_team()))
        negative = Team([[[-number for number in row] for row in table] for table in sign_team().tables()])
        self.check(sign_team(), negative)

    def test_numbers_with_many_digits(self):
        draw = Draw(192)
        def number():
            return Ratio(draw.integer(999999), draw.count(1, 999999))
        for many in (3, 16):
            team = Team([[[number() for _ in range(3)] for _ in range(3)] for _ in range(many)])
            other = in_drawn_letters(draw, team)[0]
            left, right = self.check(team, other)
            self.assertLess(max(digits_in(left), digits_in(right)), 2000)
            last = Team([[[number() for _ in range(3)] for _ in range(3)] for _ in range(many)])
            self.assertIsNone(alike(team, last))


class IsAlike(Case):
    def test_drawn_teams_in_letters(self):
        draw = Draw(193)
        for team in teams():
            left, right = draw.room(team.tall, team.tall), draw.room(team.wide, team.wide)
            other = in_letters(team, left, right)
            pair = (left, undone(right))
            self.assertIs(self.told(is_alike, team, other, pair), True)
            self.assertIs(is_alike(team, other, (tupled(left), other_kinds(undone(right)))), True)
            back = (undone(left), right)
            self.assertIs(is_alike(other, team, back), True)

    def test_pairs_with_one_number_otherwise(self):
        draw = Draw(194)
        for _ in range(30):
            team = Team([draw.rows(draw.count(1, 1) * 3, 3) for _ in range(3)])
            left, right = draw.room(3, 3), draw.room(3, 3)
            other = in_letters(team, left, right)
            pair = (left, undone(right))
            for at in (0, 1):
                table = [list(row) for row in pair[at]]
                table[draw.count(0, 2)][draw.count(0, 2)] += Ratio(1, draw.count(1, 3))
                wrong = (table, pair[1]) if at == 0 else (pair[0], table)
                self.assertIs(is_alike(team, other, wrong), leads(team, other, *wrong) and table_rank(table) == 3)

    def test_tables_that_cannot_be_undone(self):
        none = [[0, 0], [0, 0]]
        for team in (CORNER, Team([none]), Team([[[1, 0], [0, 0]]])):
            self.assertIs(is_alike(team, team, (none, none)), False)
            self.assertIs(is_alike(team, team, (unit(2), none)), False)
            self.assertIs(is_alike(team, team, (none, unit(2))), False)
            self.assertIs(is_alike(team, team, ([[1, 0], [0, 0]], [[1, 0], [0, 0]])), False)
            self.assertIs(is_alike(team, team, (unit(2), unit(2))), True)
        self.assertIs(is_alike(Team([none]), Team([none]), ([[1, 2], [3, 4]], [[5, 6], [7, 8]])), True)
        self.assertIs(is_alike(Team([none]), Team([none]), ([[1, 2], [2, 4]], [[5, 6], [7, 8]])), False)
        self.assertIs(is_alike(Team([none]), Team([none]), ([[1, 2], [3, 4]], [[5, 5], [8, 8]])), False)

    def test_any_value(self):
        one = unit(2)
        team = Team([one])
        self.assertIs(is_alike(team, team, (one, one)), True)
        for value in NO_TABLES + [(), [], one, (one,), (one, one, one), [one, one], (one, None), (None, one), (one, unit(3)),
                                  (unit(3), one), (one, [[1, 0], [0, True]]), ([[True, 0], [0, 1]], one), (one, one[:1]),
                                  ([[1, 0]], one), (one, [[1], [0]]), (one, "10"), {0: one, 1: one}, (team, team),
                                  ([[1, 0], [0]], one), (one, [[1, 0], [0, "1"]]), ((one, one),)]:
            self.assertIs(is_alike(team, team, value), False, value)

    def test_teams_of_unlike_sides_and_many(self):
        draw = Draw(195)
        wide, tall = draw_team(draw, 2, 1, 2), draw_team(draw, 2, 2, 1)
        for team, other in [(wide, tall), (Team([[[1]]]), Team([[[1]], [[1]]])), (Team([unit(2)]), Team([unit(3)])),
                            (Team([[[0, 0]]]), Team([[[0, 0]]] * 2)), (Team([[[0, 0]]]), Team([[[0]]]))]:
            for value in (None, (unit(1), unit(2)), (unit(2), unit(2)), (unit(1), unit(1)), ([[0]], [[0, 0]]), (unit(2), unit(1))):
                self.assertIs(is_alike(team, other, value), False)
        # Teams that are not square, or not simple.
        self.assertIs(is_alike(wide, wide, (unit(1), unit(2))), True)
        self.assertIs(is_alike(tall, tall, (unit(2), unit(1))), True)
        self.assertIs(is_alike(tall, tall, (unit(2), [[2]])), False)
        self.assertIs(is_alike(CORNER, CORNER, ([[2, 0], [0, 2]], [[2, 0], [0, 2]])), True)
        self.assertIs(is_alike(FOURS[0], FOURS[0], (unit(4), unit(4))), True)
        self.assertIs(is_alike(FOURS[0], FOURS[0], (unit(4), unit(4)[::-1])), False)
        self.assertIs(is_alike(Team([ratios(unit(2))]), Team([unit(2)]), ([[1, 2], [3, 4]], [[1, 2], [3, 4]])), True)


class Errors(Case):
    def test_no_teams(self):
        for value in NO_TEAMS:
            self.fails_value(InvalidTeam, value, alike, value, None)
            self.fails_value(InvalidTeam, value, alike, CORNER, value)
            self.fails_value(InvalidTeam, value, alike, other=value, team=FOURS[0])
            self.fails_value(InvalidTeam, value, is_alike, value, None, None)
            self.fails_value(InvalidTeam, value, is_alike, CORNER, value, None)

    def test_teams_that_are_not_simple(self):
        one, four = Team([[[1]]]), FOURS[0]
        three = [team for team, there, parts, apart in full_teams(197) if team.wide == 3 and len(parts) > 1]
        for team in [CORNER, Team([unit(2)]), Team([unit(3)])] + three[::4] + NOT_FULL:
            for other in (one, sign_team(), four, team, Team([[[1]]] * 16)):
                # Ahead of unlike many, and of too many places.
                self.fails(NotSimple, {}, alike, team, other)
                self.fails(NotSimple, {}, alike, other, team)
        self.assertIs(is_full(CORNER), True)

    def test_unlike_many(self):
        for team, other in [(Team([[[1]]]), sign_team()), (Team([[[1]]]), Team([[[1]], [[1]]])), (FOURS[0], sign_team()),
                            (FOURS[0], FOURS[1])]:
            self.fails(UnlikeMany, {}, alike, team, other)
            self.fails(UnlikeMany, {}, alike, other, team)

    def test_four_places(self):
        for team, other in [(FOURS[0], FOURS[0]), (FOURS[1], sign_team()), (FOURS[0], Team([[[1]]])),
                            (FOURS[2], in_drawn_letters(Draw(196), FOURS[2])[0]),
                            (FOURS[1], pattern_team(1, 1, [(0, 0)]) and sign_team())]:
            for first, last in ((team, other), (other, team)):
                with self.assertRaises(TooMany) as held:
                    alike(first, last)
                self.assertEqual((held.exception.what, held.exception.limit), ("places", 3))
        self.assertEqual(beside(CORNER, CORNER), FOURS[2])


if __name__ == "__main__":
    unittest.main()
