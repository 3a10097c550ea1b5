"""Lacks and free ranks, with both papers."""

import unittest

from shrunkrooms.errors import InvalidMany, InvalidTeam
from shrunkrooms.helpers import crossed_rank, is_helpers, sides
from shrunkrooms.lacks import free_helpers, free_rank, is_free_helpers, is_full, is_loss_room, lack, loss_room
from shrunkrooms.makers import (beside, in_letters, pairs_team, pattern_team, remixed, sign_team, upright, with_table,
                                without)
from shrunkrooms.plain import plain_rank
from shrunkrooms.ratios import Ratio
from shrunkrooms.tables import table_rank
from shrunkrooms.teams import Team, is_room, loss, told_room
from tests.drawn_teams import NO_TEAMS, draw_team, in_drawn_letters, lossy_team, teams, teams_of_all_sides
from tests.test_helpers import NO_HELPERS
from tests.test_teams import no_rooms
from tests.tools import NO_COUNTS, Case, Draw, digits_in, other_kinds, product, ratios, reference_rank, tupled, unit

NARROW = Team([[[1, 0, 0], [0, 0, 1]], [[0, 1, 0], [0, 0, 0]]])
ALL = teams() + teams_of_all_sides()

# All tables of four rows that turn their sign: full, and so is each mixture with a determinant.
TURNS = [[[int((i, j) == (a, b)) - int((i, j) == (b, a)) for j in range(4)] for i in range(4)]
         for a in range(4) for b in range(a + 1, 4)]


def hard_teams():
    """Teams no mixture of which has the free rank, with their lacks."""
    signs = sign_team()
    one, none = Team([[[1]], [[0]], [[0]]]), Team([[[0]]] * 3)
    return [(signs, 0), (beside(signs, none), 1), (beside(signs, one), 0), (upright(signs), 0),
            (Team([table + [[0] * 3] for table in signs.tables()]), 0),
            (Team([[line + [0] for line in table] for table in signs.tables()]), 1),
            (remixed(signs, unit(3) + [[1, 1, 1]]), 0), (remixed(signs, unit(3)[:2]), 1)]


class Papers(Case):
    def check(self, team, told=None):
        """Both papers of one team: together they show that each is best."""
        found, free = self.told(lack, team), self.told(free_rank, team)
        self.assert_count(found)
        self.assert_count(free)
        self.assertEqual(found + free, team.wide)
        if told is not None:
            self.assertEqual(found, told)
        room = self.told(loss_room, team)
        self.assertIs(is_room(team, room), True)
        self.assertEqual(room, told_room(team, room))
        self.assertEqual(loss(team, room), found)
        helpers = self.told(free_helpers, team)
        self.assertIs(is_helpers(team, helpers), True)
        for table in helpers:
            self.assert_ratios(table)
        s, t = sides(team, helpers)
        self.assertEqual(s, t)
        self.assertLessEqual(s, 3)
        self.assertGreaterEqual(crossed_rank(team, helpers), s * free)
        self.assertIs(is_full(team), team.tall == team.wide and found == 0)
        for many in range(7):
            self.assertIs(is_loss_room(team, many, room), many <= found)
            self.assertIs(is_free_helpers(team, many, helpers), many <= free)
        return found

    def test_drawn_teams(self):
        lacks = [self.check(team) for team in ALL]
        self.assertEqual(sorted(set(lacks)), [0, 1, 2, 3, 4])

    def test_arguments_by_name(self):
        for team in ALL[::7]:
            for function in (lack, free_rank, is_full, loss_room, free_helpers):
                self.assertEqual(function(team=team), function(team))
            room, helpers = loss_room(team), free_helpers(team)
            self.assertIs(is_loss_room(value=tupled(room), many=lack(team), team=team), True)
            self.assertIs(is_free_helpers(value=tupled(helpers), many=free_rank(team), team=team), True)
            self.assertIs(is_loss_room(team, lack(team), other_kinds(room)), True)
            self.assertIs(is_free_helpers(team, free_rank(team), other_kinds(helpers)), True)

    def test_noughts(self):
        for tall in (1, 2, 3, 4):
            for wide in (1, 2, 3, 4):
                for many in (1, 16):
                    self.check(Team([[[0] * wide] * tall] * many), wide)

    def test_one_table(self):
        draw = Draw(100)
        for _ in range(30):
            table = draw.made_rows(draw.count(1, 4), draw.count(1, 4), draw.count(0, 4))
            self.check(Team([table]), len(table[0]) - reference_rank(table))

    def test_all_tables(self):
        for tall in (1, 2, 3, 4):
            for wide in (1, 2, 3, 4):
                every = [(i, j) for i in range(tall) for j in range(wide)]
                self.check(pattern_team(tall, wide, every), max(0, wide - tall))

    def test_teams_no_mixture_of_which_is_best(self):
        draw = Draw(101)
        for team, told in hard_teams():
            self.check(team, told)
            other, _ = in_drawn_letters(draw, team)
            self.check(other, told)
            self.check(remixed(other, draw.room(team.many, team.many)), told)
        self.assertEqual(plain_rank(sign_team()), 2)
        self.assertEqual(sides(sign_team(), free_helpers(sign_team())), (2, 2))
        self.check(Team(TURNS), 0)
        self.check(Team(TURNS[:5]), 0)

    def test_a_part_that_loses_beside_one_that_does_not(self):
        draw = Draw(102)
        for _ in range(40):
            many = draw.count(1, 4)
            tall, wide = draw.count(1, 3), draw.count(1, 3)
            first, last = lossy_team(draw, many, tall, wide), draw_team(draw, many, 1, 1)
            both = beside(first, last) if draw.count(0, 1) else beside(last, first)
            self.check(in_drawn_letters(draw, both)[0], lack(first) + lack(last))

    def test_known_losses_in_letters(self):
        draw = Draw(103)
        for near, far in [(1, 0), (2, 1), (3, 2), (2, 0), (3, 1), (4, 3), (4, 1), (3, 0), (4, 0)]:
            for tall in range(max(1, far), 5):
                wide = 4
                # The first places lead to the first far places alone, and there anywhere; the others anywhere.
                spots = [(i, j) for i in range(tall) for j in range(wide) if i < far or j >= near]
                if len(spots) == 0:
                    continue
                told = max(near - far, wide - tall, 0)
                self.check(in_drawn_letters(draw, pattern_team(tall, wide, spots))[0], told)

    def test_integers_and_ratios_mixed(self):
        half = Ratio(1, 2)
        self.check(Team([[[1, half], [2, 1]]]), 1)
        self.check(Team([[[1, half], [Ratio(2), Ratio(3, 3)]]]), 1)
        self.check(Team([[[1, half], [2, Ratio(1001, 1000)]]]), 0)
        draw = Draw(104)
        for team in ALL[:20]:
            same = Team(other_kinds(team.tables()))
            self.assertEqual(loss_room(same), loss_room(team))
            self.assertEqual(free_helpers(same), free_helpers(team))
        great = [[[Ratio(draw.integer(999999), draw.count(1, 999999)) for _ in range(4)] for _ in range(4)] for _ in range(16)]
        self.check(Team(great), 0)
        # Two rows in common letters: the third and fourth place go where the first two go.
        low = [[row[:2] + [Ratio(0)] * 2 if at >= 1 else row for at, row in enumerate(table)] for table in great]
        team, moved = in_drawn_letters(draw, Team(low))
        self.check(team, 1)
        self.assertLess(max(digits_in(loss_room(team)), digits_in(free_helpers(team))), 2000)

    def test_wrong_teams(self):
        for value in NO_TEAMS:
            for function in (lack, free_rank, is_full, loss_room, free_helpers):
                self.fails_value(InvalidTeam, value, function, value)
                self.fails_value(InvalidTeam, value, function, team=value)
            for function in (is_loss_room, is_free_helpers):
                self.fails_value(InvalidTeam, value, function, value, None, None)
                self.fails(InvalidTeam, {"value": value}, function, value=[], many=-1, team=value)


class IsLossRoom(Case):
    def test_any_value(self):
        for many in (0, 1, 2, 10 ** 29):
            for value in no_rooms(3):
                self.assertIs(is_loss_room(NARROW, many, value), False, value)
        for value in ([], ()):
            self.assertIs(is_loss_room(NARROW, 0, value), True)
            self.assertIs(is_loss_room(NARROW, 1, value), False)

    def test_rooms(self):
        draw = Draw(105)
        seen = []
        for team in ALL[::2]:
            for room in draw.rooms(team.wide):
                for many in range(5):
                    found = self.told(is_loss_room, team, many, room)
                    self.assertIs(found, loss(team, room) >= many)
                    seen.append(found)
        self.assertIn(True, seen)
        self.assertIn(False, seen)

    def test_told_ones(self):
        self.assertIs(is_loss_room(NARROW, 1, [[1, 0, 0], [0, 1, 0]]), True)
        self.assertIs(is_loss_room(NARROW, 1, [[1, 1, 0], [0, 2, 0]]), True)
        self.assertIs(is_loss_room(NARROW, 1, [[1, 1, 0], [2, 2, 0]]), False)
        self.assertIs(is_loss_room(NARROW, 1, [[1, 0, 0], [0, 1, 0], [1, 1, 0]]), False)
        self.assertIs(is_loss_room(NARROW, 1, unit(3)), True)
        self.assertIs(is_loss_room(NARROW, 2, unit(3)), False)
        # All loses less than nothing there.
        tall = Team([[[1], [0]], [[0], [1]]])
        self.assertIs(is_loss_room(tall, 0, [[5]]), False)
        self.assertIs(is_loss_room(tall, 0, []), True)

    def test_wrong_counts(self):
        for value in NO_COUNTS:
            for function in (is_loss_room, is_free_helpers):
                self.fails_value(InvalidMany, value, function, NARROW, value, [])
                self.fails(InvalidMany, {"value": value}, function, value=None, many=value, team=NARROW)


class IsFreeHelpers(Case):
    def test_any_value(self):
        team = Team(NARROW.tables())
        for value in NO_HELPERS:
            for many in (0, 1, 3, 10 ** 29):
                self.assertIs(is_free_helpers(team, many, value), False, value)

    def test_unlike_sides(self):
        for many in (0, 1, 2):
            self.assertIs(is_free_helpers(NARROW, many, [[[1, 0]], [[0, 1]]]), False)
            self.assertIs(is_free_helpers(NARROW, many, [[[1], [0]], [[0], [1]]]), False)
            self.assertIs(is_free_helpers(NARROW, many, [[[1] * 23] * 24] * 2), False)

    def test_ranks(self):
        draw = Draw(106)
        seen = []
        for team in ALL[::3]:
            for k in (1, 2, 3):
                helpers = [draw.sparse(k, k) for _ in range(team.many)]
                rank = crossed_rank(team, helpers)
                for many in range(6):
                    found = self.told(is_free_helpers, team, many, helpers)
                    self.assertIs(found, rank >= k * many)
                    seen.append(found)
        self.assertIn(True, seen)
        self.assertIn(False, seen)

    def test_told_ones(self):
        signs, two = sign_team(), [[[1, 0], [0, 1]], [[0, 1], [0, 0]], [[0, 0], [1, 0]]]
        self.assertEqual([is_free_helpers(signs, many, two) for many in (0, 1, 2, 3, 4)], [True] * 4 + [False])
        one = [[[1]], [[1]], [[2]]]
        self.assertEqual([is_free_helpers(signs, many, one) for many in (0, 1, 2, 3, 4)], [True] * 3 + [False] * 2)
        # A rank of 5 by sides 2 is not twice 3.
        self.assertIs(is_free_helpers(Team([unit(3)]), 3, [[[1, 0], [0, 0]]]), False)
        self.assertIs(is_free_helpers(Team([[[1, 0], [0, 1]]]), 2, [unit(24)]), True)
        self.assertIs(is_free_helpers(Team([[[1, 0], [0, 1]]]), 2, [unit(23) + [[0] * 23]]), False)
        self.assertIs(is_free_helpers(Team([[[1, 0], [0, 1]]]), 2, [[row + [0] for row in unit(23)] + [[0] * 24]]), False)


class Facts(Case):
    def test_plain_ranks_are_at_most_free_ranks(self):
        for team in [team for team in ALL if team.many <= 5]:
            plain, free = plain_rank(team), free_rank(team)
            self.assertLessEqual(plain, free)
            self.assertLessEqual(free, 2 * plain)
            if team.many <= 2 or free <= 2:
                self.assertEqual(plain, free)

    def test_upright_letters_and_mixed_anew(self):
        draw = Draw(107)
        for team in ALL[::2]:
            self.assertEqual(free_rank(upright(team)), free_rank(team))
            self.assertEqual(lack(upright(team)), lack(team) + team.tall - team.wide)
            self.assertEqual(lack(in_drawn_letters(draw, team)[0]), lack(team))
            self.assertEqual(lack(remixed(team, draw.room(team.many, team.many))), lack(team))

    def test_without_a_table_it_falls_by_its_rank_at_most(self):
        for team in ALL[::3]:
            if team.many > 1:
                for place, table in enumerate(team.tables()):
                    less = free_rank(without(team, place))
                    self.assertLessEqual(less, free_rank(team))
                    self.assertLessEqual(free_rank(team), less + table_rank(table))
                    self.assertEqual(free_rank(with_table(without(team, place), table)), free_rank(team))

    def test_pairs_and_patterns_have_no_gap(self):
        draw = Draw(108)
        for _ in range(30):
            many = draw.count(1, 6)
            team = pairs_team(draw.rows(many, draw.count(1, 4)), draw.rows(many, draw.count(1, 4)))
            self.assertEqual(free_rank(team), plain_rank(team))

    def test_full_ones(self):
        for team, told in [(sign_team(), True), (Team([unit(4)]), True), (Team([[[0]]]), False), (NARROW, False),
                           (Team([[[1, 0]]]), False), (Team([[[1], [0]]]), False), (Team([[[1, 2], [2, 4]]]), False),
                           (Team([[[1, 2], [2, 4]], [[0, 0], [0, 1]]]), True), (Team([ratios(unit(2))]), True)]:
            self.assertIs(is_full(team), told)
        self.assertEqual(lack(in_letters(sign_team(), unit(3), product(unit(3), unit(3)))), 0)


if __name__ == "__main__":
    unittest.main()
