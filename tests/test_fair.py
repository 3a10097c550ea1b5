"""Fair teams, unfair rooms, fair helpers, piece helpers."""

import unittest
from math import gcd

from shrunkrooms.errors import InvalidMany, InvalidTeam, NotFair, TooMany
from shrunkrooms.fair import (fair_helpers, is_fair, is_fair_helpers, is_piece_helpers, is_unfair_room, piece_helpers,
                              unfair_room)
from shrunkrooms.helpers import crossed_rank, is_helpers, sides
from shrunkrooms.lacks import free_helpers, is_full
from shrunkrooms.makers import pattern_team, remixed, sign_team, upright
from shrunkrooms.ratios import Ratio
from shrunkrooms.slopes import slope_chain, slopes
from shrunkrooms.teams import Team, is_room, made, told_room
from tests.drawn_teams import NO_TEAMS, in_drawn_letters
from tests.test_helpers import NO_HELPERS
from tests.test_slopes import ALL, STEEP, TOO_GREAT, great_number
from tests.test_teams import no_rooms
from tests.tools import NO_COUNTS, Case, Draw, digits_in, other_kinds, product, tupled, unit

UNEVEN = Team([[[1, 0, 0], [0, 0, 1]], [[0, 1, 0], [0, 0, 0]]])
QUOTIENTS = [(many, times) for many in (1, 2, 3) for times in (1, 2, 3)]
# Even teams of all sides to 3: tables with a middle line of ones, moved on by one row or place each.
TWO_TO_THREE = Team([[[1, 0], [0, 1], [0, 0]], [[0, 0], [1, 0], [0, 1]]])
EVEN = [Team([[[5]]]), Team([[[1], [0]], [[0], [1]]]), Team([[[1, 0]], [[0, 1]]]), TWO_TO_THREE, upright(TWO_TO_THREE),
        sign_team(), Team([unit(2)]), Team([unit(3)]), Team([[[int(i == k)] for i in range(3)] for k in range(3)]),
        Team([[[int(i == k) for i in range(3)]] for k in range(3)]), pattern_team(2, 3, [(0, 0), (0, 1), (1, 1), (1, 2)]),
        pattern_team(3, 2, [(i, j) for i in range(3) for j in range(2)]), pattern_team(2, 2, [(0, 0), (0, 1), (1, 1)])]
FOURS = [Team([unit(4)]), Team([unit(4)[:1]]), Team([[row[:1] for row in unit(4)]]), Team([unit(4)[:2], unit(4)[2:]])]


def is_fair_by_slopes(team, many, times):
    far, size = slopes(team)[0]
    return times * size <= many * far


class Fair(Case):
    def test_exactly_by_the_first_slope(self):
        seen = []
        for team in ALL + EVEN:
            for many, times in QUOTIENTS:
                told = is_fair_by_slopes(team, many, times)
                self.assertIs(is_fair(team, many, times), told)
                room = unfair_room(team, many, times)
                self.assertIs(room is None, told)
                if not told:
                    self.assertEqual(room, told_room(team, room))
                    self.assertLess(many * len(made(team, room)), times * len(room))
                    self.assertIs(is_unfair_room(team, many, times, room), True)
                    self.assertIs(is_unfair_room(team, many, times, tupled(room)), True)
                    self.assertIs(is_unfair_room(team, many, times, slope_chain(team)[1]), True)
                seen.append(told)
        self.assertIn(True, seen)
        self.assertIn(False, seen)

    def test_repeated_and_by_name(self):
        for team in (ALL + EVEN)[::4]:
            for many, times in QUOTIENTS[::2]:
                found = self.told(is_fair, team, many, times)
                self.assertIs(is_fair(times=times, many=many, team=team), found)
                room = self.told(unfair_room, team, many, times)
                self.assertEqual(unfair_room(times=times, many=many, team=team), room)
                self.assertIs(self.told(is_unfair_room, team, many, times, room), not found)
                self.assertIs(is_unfair_room(value=room, times=times, many=many, team=team), not found)
                if room is not None:
                    self.assert_ratios(room)
                    self.assertIs(is_unfair_room(team, many, times, other_kinds(room)), True)

    def test_no_drawn_room_is_unfair_in_a_fair_team(self):
        draw = Draw(210)
        seen = []
        for team in ALL[::2] + EVEN:
            for many, times in QUOTIENTS:
                fair = is_fair(team, many, times)
                for room in draw.rooms(team.wide):
                    found = is_unfair_room(team, many, times, room)
                    self.assertIs(found, many * len(made(team, room)) < times * len(room))
                    seen.append(found)
                    if fair:
                        self.assertIs(found, False)
        self.assertIn(True, seen)

    def test_any_value_as_a_room(self):
        for many, times in QUOTIENTS:
            for value in no_rooms(3) + [[], ()]:
                self.assertIs(is_unfair_room(UNEVEN, many, times, value), False, value)
        every = [[0, 0, 5], [0, 5, 0], [5, 0, 0]]
        self.assertEqual([is_unfair_room(UNEVEN, many, times, every) for many, times in QUOTIENTS],
                         [2 * many < 3 * times for many, times in QUOTIENTS])
        # In teams of four places, and where a room is told by any rows of it.
        self.assertIs(is_unfair_room(FOURS[0], 1, 1, unit(4)), False)
        self.assertIs(is_unfair_room(FOURS[0], 1, 2, unit(4)), True)
        self.assertIs(is_unfair_room(FOURS[1], 2, 1, unit(4)), True)
        self.assertIs(is_unfair_room(FOURS[1], 2, 1, [[0, 0, 0, 1]]), True)
        self.assertIs(is_unfair_room(FOURS[1], 2, 1, [[1, 0, 0, 1]]), False)
        self.assertIs(is_unfair_room(FOURS[2], 1, 1, [[1]]), False)
        self.assertIs(is_unfair_room(FOURS[2], 1, 2, [[1]]), True)


class FairHelpers(Case):
    def test_fair_teams(self):
        many_sides = set()
        for team in ALL[::2] + EVEN:
            for many, times in QUOTIENTS:
                if not is_fair(team, many, times):
                    self.fails(NotFair, {}, fair_helpers, team, many, times)
                    continue
                helpers = fair_helpers(team, many, times)
                tall, wide = sides(team, helpers)
                k = tall // many
                many_sides.add(k)
                self.assertEqual((tall, wide), (many * k, times * k))
                self.assertLessEqual(k, 5)
                self.assertEqual(crossed_rank(team, helpers), team.wide * times * k)
                self.assertIs(is_fair_helpers(team, many, times, helpers), True)
                self.assertLess(digits_in(helpers), 2000)
                for table in helpers:
                    self.assert_ratios(table)
                common = gcd(many, times)
                self.assertIs(is_fair_helpers(team, many // common, times // common, helpers), True)
        self.assertIn(2, many_sides)

    def test_repeated_and_by_name(self):
        for team, many, times in [(sign_team(), 1, 1), (sign_team(), 3, 2), (UNEVEN, 2, 1), (TWO_TO_THREE, 2, 3)]:
            found = self.told(fair_helpers, team, many, times)
            self.assertEqual(fair_helpers(times=times, many=many, team=team), found)
            self.assertIs(self.told(is_fair_helpers, team, many, times, found), True)
            self.assertIs(is_fair_helpers(value=tupled(found), times=times, many=many, team=team), True)
            self.assertIs(is_fair_helpers(team, many, times, other_kinds(found)), True)

    def test_helpers_with_something_otherwise(self):
        for team, many, times in [(sign_team(), 1, 1), (UNEVEN, 2, 1), (TWO_TO_THREE, 2, 3), (EVEN[1], 1, 2), (EVEN[2], 2, 1)]:
            found = fair_helpers(team, many, times)
            for other_many, other_times in QUOTIENTS:
                tall, wide = sides(team, found)
                fits = tall * other_times == wide * other_many and tall % other_many == 0 and wide % other_times == 0
                self.assertIs(is_fair_helpers(team, other_many, other_times, found), fits)
            # A place that is nothing but noughts is led to noughts.
            lame = [[[0] + list(row[1:]) for row in table] for table in found]
            self.assertIs(is_fair_helpers(team, many, times, lame), False)
            noughts = [[[0] * len(table[0])] * len(table) for table in found]
            self.assertIs(is_fair_helpers(team, many, times, noughts), False)
            self.assertIs(is_fair_helpers(team, many, times, found[:-1]), False)

    def test_any_value(self):
        for many, times in QUOTIENTS:
            for value in NO_HELPERS:
                self.assertIs(is_fair_helpers(UNEVEN, many, times, value), False, value)
        one = Team([[[1]]])
        self.assertEqual([is_fair_helpers(one, many, times, [unit(2)]) for many, times in QUOTIENTS],
                         [many == times and many < 3 for many, times in QUOTIENTS])
        self.assertEqual([is_fair_helpers(one, many, times, [[[1], [0], [0]]]) for many, times in QUOTIENTS],
                         [(many, times) == (3, 1) for many, times in QUOTIENTS])
        self.assertEqual([is_fair_helpers(one, many, times, [unit(6)]) for many, times in QUOTIENTS],
                         [many == times for many, times in QUOTIENTS])
        six_by_four = [row[:4] for row in unit(6)]
        self.assertEqual([is_fair_helpers(one, many, times, [six_by_four]) for many, times in QUOTIENTS],
                         [(many, times) == (3, 2) for many, times in QUOTIENTS])
        self.assertIs(is_fair_helpers(one, 1, 2, [[[1, 0]]]), False)
        self.assertIs(is_fair_helpers(one, 1, 1, [unit(24)]), True)

    def test_four_places(self):
        self.assertIs(is_fair_helpers(FOURS[0], 1, 1, [[[2]]]), True)
        self.assertIs(is_fair_helpers(FOURS[0], 2, 1, [[[2], [0]]]), True)
        self.assertIs(is_fair_helpers(FOURS[1], 1, 1, [[[2]]]), False)
        self.assertIs(is_fair_helpers(FOURS[2], 1, 1, [[[2]]]), True)
        self.assertIs(is_fair_helpers(FOURS[3], 2, 1, [[[1], [0]], [[0], [1]]]), True)
        self.assertIs(is_fair_helpers(FOURS[3], 2, 1, [[[1], [0]], [[1], [0]]]), False)


class PieceHelpers(Case):
    def check(self, team):
        found = self.told(piece_helpers, team)
        self.assertEqual(piece_helpers(team=team), found)
        self.assertIs(is_helpers(team, found), True)
        tall, wide = sides(team, found)
        common = gcd(team.tall, team.wide)
        k = tall * common // team.wide
        self.assertEqual((tall, wide), (team.wide // common * k, team.tall // common * k))
        self.assertTrue(1 <= k <= 5)
        self.assertEqual(crossed_rank(team, found), team.tall * tall)
        self.assertIs(self.told(is_piece_helpers, team, found), True)
        self.assertIs(is_piece_helpers(value=tupled(found), team=team), True)
        self.assertIs(is_piece_helpers(team, other_kinds(found)), True)
        self.assertLess(digits_in(found), 2000)
        for table in found:
            self.assert_ratios(table)
        lame = [[[0] * len(table[0])] + table[1:] for table in found]
        self.assertIs(is_piece_helpers(team, lame), False)

    def test_even_teams(self):
        draw = Draw(211)
        for team in EVEN:
            self.assertEqual(slopes(team), [(team.tall, team.wide)])
            self.check(team)
            self.check(in_drawn_letters(draw, team)[0])

    def test_drawn_teams(self):
        seen = []
        for team in ALL + [STEEP, UNEVEN, remixed(sign_team(), unit(3)[:2])]:
            even = slopes(team) == [(team.tall, team.wide)]
            if even:
                self.check(team)
            else:
                self.fails(NotFair, {}, piece_helpers, team)
            seen.append((even, team.tall == team.wide))
        self.assertEqual(sorted(set(seen)), [(False, False), (False, True), (True, False), (True, True)])

    def test_square_teams_are_even_exactly_if_full(self):
        for team in ALL + EVEN:
            if team.tall == team.wide:
                self.assertIs(slopes(team) == [(team.tall, team.wide)], is_full(team))
                if is_full(team):
                    self.assertIs(is_piece_helpers(team, free_helpers(team)), True)

    def test_any_value(self):
        for value in NO_HELPERS:
            self.assertIs(is_piece_helpers(UNEVEN, value), False, value)
        row = Team([[[1, 0]], [[0, 1]]])
        self.assertIs(is_piece_helpers(row, [[[1], [0]], [[0], [1]]]), True)
        self.assertIs(is_piece_helpers(row, [[[1], [0]], [[2], [0]]]), False)
        self.assertIs(is_piece_helpers(row, [[[1, 0]], [[0, 1]]]), False)
        self.assertIs(is_piece_helpers(row, [[[1]], [[1]]]), False)
        self.assertIs(is_piece_helpers(row, [[[1], [0], [0], [0]], [[0], [1], [0], [0]]]), False)
        # Of teams that are not even no value is one.
        draw = Draw(212)
        for team in (UNEVEN, STEEP):
            for k in (1, 2, 3):
                for tall, wide in ((3 * k, 2 * k), (k, k), (2 * k, 3 * k)):
                    helpers = [[[draw.integer(99) for _ in range(wide)] for _ in range(tall)] for _ in range(team.many)]
                    self.assertIs(is_piece_helpers(team, helpers), False)

    def test_four_places(self):
        self.assertIs(is_piece_helpers(FOURS[0], [[[3]]]), True)
        self.assertIs(is_piece_helpers(FOURS[0], [[[0]]]), False)
        self.assertIs(is_piece_helpers(FOURS[0], [unit(24)]), True)
        self.assertIs(is_piece_helpers(FOURS[1], [[[1], [0], [0], [0]]]), False)
        every = Team([[row] for row in unit(4)])
        self.assertIs(is_piece_helpers(every, [[[number] for number in row] for row in unit(4)]), True)
        self.assertIs(is_piece_helpers(FOURS[3], [[[1], [0]], [[0], [1]]]), True)
        self.assertIs(is_piece_helpers(FOURS[3], [[[1, 0]], [[0, 1]]]), False)
        six = [[[1 + (i * i + 3 * i * j + at) % 7 for j in range(6)] for i in range(12)] for at in (0, 5)]
        self.assertIs(is_piece_helpers(FOURS[3], six), crossed_rank(FOURS[3], six) == 24)

    def test_numbers_with_many_digits(self):
        draw = Draw(213)
        for tall, wide in [(3, 3), (2, 3), (3, 2), (1, 3), (3, 1)]:
            team = Team([[[great_number(draw) for _ in range(wide)] for _ in range(tall)] for _ in range(16)])
            self.check(team)
            self.assertIs(is_fair(team, wide, tall), True)
            self.assertIs(is_fair_helpers(team, wide, tall, fair_helpers(team, wide, tall)), True)


class Errors(Case):
    def test_no_teams(self):
        for value in NO_TEAMS:
            for function in (is_fair, unfair_room, fair_helpers):
                self.fails_value(InvalidTeam, value, function, value, None, None)
                self.fails_value(InvalidTeam, value, function, times=0, many=0, team=value)
            for function in (is_unfair_room, is_fair_helpers):
                self.fails_value(InvalidTeam, value, function, value, None, None, None)
                self.fails(InvalidTeam, {"value": value}, function, value=[], times=0, many=0, team=value)
            self.fails_value(InvalidTeam, value, piece_helpers, value)
            self.fails_value(InvalidTeam, value, is_piece_helpers, value, None)

    def test_wrong_counts(self):
        for value in NO_COUNTS + [0, 4, 10 ** 29]:
            for team in (UNEVEN, sign_team(), FOURS[0]):
                for function in (is_fair, unfair_room, fair_helpers):
                    self.fails_value(InvalidMany, value, function, team, value, None)
                    self.fails_value(InvalidMany, value, function, team, 3, value)
                    self.fails_value(InvalidMany, value, function, times=0, many=value, team=team)
                for function in (is_unfair_room, is_fair_helpers):
                    self.fails_value(InvalidMany, value, function, team, value, None, None)
                    self.fails_value(InvalidMany, value, function, team, 1, value, None)
                    self.fails(InvalidMany, {"value": value}, function, value=[], times=value, many=1, team=team)

    def test_too_many_places(self):
        for team in FOURS + TOO_GREAT:
            for function in (is_fair, unfair_room, fair_helpers):
                self.too_many(function, team, 3, 3)
                self.too_many(function, team, 1, 2)
            self.too_many(piece_helpers, team)

    def too_many(self, function, *given):
        with self.assertRaises(TooMany) as held:
            function(*given)
        self.assertEqual((held.exception.what, held.exception.limit), ("places", 3))

    def test_not_fair(self):
        for team, many, times in [(UNEVEN, 1, 1), (STEEP, 3, 1), (sign_team(), 1, 2), (Team([[[0]]]), 1, 1)]:
            self.fails(NotFair, {}, fair_helpers, team, many, times)
            self.fails(NotFair, {}, fair_helpers, times=times, many=many, team=team)
        for team in (UNEVEN, STEEP, Team([[[0]]]), Team([[[1, 0]]]), Team([[[1], [0]]])):
            self.fails(NotFair, {}, piece_helpers, team)
        self.assertIs(is_room(UNEVEN, product(unit(2), [[1, 0, 0], [0, 1, 0]])), True)
        self.assertEqual(unfair_room(Team([[[0]]]), 3, 1), [[Ratio(1)]])


if __name__ == "__main__":
    unittest.main()
