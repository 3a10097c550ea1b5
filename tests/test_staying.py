"""Volumes, the number that stays, and staying papers."""

import unittest

from shrunkrooms.errors import InvalidHelpers, InvalidTable, InvalidTeam, NotSquare
from shrunkrooms.fading import faded, fading
from shrunkrooms.helpers import crossed, crossed_rank
from shrunkrooms.lacks import free_helpers, lack
from shrunkrooms.makers import in_letters, remixed, sign_team
from shrunkrooms.ratios import Ratio
from shrunkrooms.slopes import slopes
from shrunkrooms.staying import is_staying, stay, volume
from shrunkrooms.tables import determinant
from shrunkrooms.teams import Team
from tests.drawn_teams import NO_TEAMS, draw_helpers, draw_team, teams, teams_of_all_sides
from tests.test_fading import FADING, NOT_SQUARE, ONE, SQUARE
from tests.test_helpers import NO_HELPERS, reference_crossed
from tests.test_tables import WRONG, reference_determinant, square_tables
from tests.tools import Case, Draw, fractions, other_kinds, product, tupled, unit

TURNS = [ONE, [[0, 1], [0, 0]], [[0, 0], [1, 0]]]
ALL = teams() + teams_of_all_sides()


def eliminated_determinant(rows):
    """The determinant by plain elimination with Python's own fractions."""
    left, worth = fractions(rows), 1
    for at in range(len(left)):
        pick = next((row for row in range(at, len(left)) if left[row][at] != 0), None)
        if pick is None:
            return Ratio(0)
        if pick != at:
            left[at], left[pick] = left[pick], left[at]
            worth = -worth
        worth *= left[at][at]
        for row in range(at + 1, len(left)):
            factor = left[row][at] / left[at][at]
            if factor != 0:
                left[row] = [a - factor * b for a, b in zip(left[row], left[at])]
    return Ratio(worth.numerator, worth.denominator)


def letters_of_volume_1(draw, side):
    """A table of volume 1: products of tables with ones on the middle line, and of powers on it."""
    below = [[draw.number(2) if j < i else int(i == j) for j in range(side)] for i in range(side)]
    above = [[draw.number(2) if j > i else int(i == j) for j in range(side)] for i in range(side)]
    middle = unit(side)
    if side > 1:
        middle[0][0], middle[1][1] = 3, Ratio(1, 3)
    return product(product(below, middle), above)


class Volume(Case):
    def test_drawn_tables(self):
        for table in square_tables():
            found = self.told(volume, table)
            self.assertIs(found.__class__, Ratio)
            self.assertEqual(found, reference_determinant(table))
            self.assertEqual(volume(table=tupled(table)), found)
            self.assertEqual(volume(other_kinds(table)), found)

    def test_greater_tables(self):
        draw = Draw(260)
        for side in (7, 12, 24, 30):
            rows = draw.rows(side, side)
            self.assertEqual(volume(rows), eliminated_determinant(rows))
            rows[3] = [0] * side
            self.assertEqual(volume(rows), Ratio(0))
            rows[3] = [a - b * 2 for a, b in zip(rows[0], rows[-1])]
            self.assertEqual(volume(rows), Ratio(0))
            sparse = draw.sparse(side, side)
            self.assertEqual(volume(sparse), eliminated_determinant(sparse))
            self.assertEqual(volume(draw.made_rows(side, side, 4)), Ratio(0))
        self.assertEqual(volume([[2 * number for number in row] for row in unit(96)]), Ratio(2 ** 96))
        swaps = [unit(24)[at ^ 1] for at in range(24)]
        self.assertEqual(volume(swaps), Ratio(1))
        self.assertEqual(volume([unit(26)[at ^ 1] for at in range(26)]), Ratio(-1))

    def test_products(self):
        draw = Draw(261)
        for side in (1, 2, 3, 5, 8):
            for _ in range(4):
                first, last = draw.rows(side, side), draw.rows(side, side)
                self.assertEqual(volume(product(first, last)), volume(first) * volume(last))
        for side in (1, 2, 3, 4):
            self.assertEqual(volume(letters_of_volume_1(draw, side)), Ratio(1))

    def test_errors(self):
        for value in WRONG:
            self.fails_value(InvalidTable, value, volume, value)
            self.fails_value(InvalidTable, value, volume, table=value)
        for table in ([[1, 2]], [[1], [2]], [[1] * 96] * 95, [[1] * 95] * 96, ((1, 2, 3), (4, 5, 6))):
            self.fails(NotSquare, {}, volume, table)
            self.fails(NotSquare, {}, volume, table=table)


class Stay(Case):
    def check(self, team, helpers):
        found = self.told(stay, team, helpers)
        self.assertIs(found.__class__, Ratio)
        self.assertEqual(found, determinant(crossed(team, helpers)))
        self.assertEqual(stay(helpers=tupled(helpers), team=team), found)
        self.assertEqual(stay(team, other_kinds(helpers)), found)
        self.assertIs(self.told(is_staying, team, helpers), found != Ratio(0))
        self.assertIs(is_staying(value=tupled(helpers), team=team), found != Ratio(0))
        self.assertIs(is_staying(team, other_kinds(helpers)), found != Ratio(0))
        return found

    def test_square_teams(self):
        draw = Draw(262)
        seen = set()
        for team in SQUARE[::2]:
            for side in (1, 2, 3):
                helpers = draw_helpers(draw, team, side, side)
                found = self.check(team, helpers)
                if side * team.tall <= 6:
                    self.assertEqual(found, reference_determinant(reference_crossed(team, helpers)))
                if lack(team) > 0:
                    self.assertEqual(found, Ratio(0))
                seen.add(found == Ratio(0))
            self.check(team, [[[0]]] * team.many)
            self.assertIs(self.check(team, free_helpers(team)) == Ratio(0), lack(team) > 0)
        self.assertEqual(seen, {True, False})

    def test_unlike_sides(self):
        draw = Draw(263)
        seen = set()
        for team in ALL[::2]:
            if team.tall != team.wide:
                for k in (1, 2):
                    helpers = draw_helpers(draw, team, team.wide * k, team.tall * k)
                    found = self.check(team, helpers)
                    seen.add(found == Ratio(0))
                    if found != Ratio(0) and team.tall < 4 and team.wide < 4:
                        self.assertEqual(slopes(team), [(team.tall, team.wide)])
        self.assertEqual(seen, {True, False})
        self.assertEqual(stay(Team([[[1], [0]], [[0], [1]]]), [[[1, 0]], [[0, 1]]]), Ratio(1))
        self.assertEqual(stay(Team([[[1], [0]], [[0], [1]]]), [[[0, 1]], [[1, 0]]]), Ratio(-1))
        self.assertEqual(stay(Team([[[1, 0]], [[0, 1]]]), [[[2], [0]], [[0], [3]]]), Ratio(6))

    def test_told_ones(self):
        self.assertEqual(stay(sign_team(), TURNS), Ratio(-1))
        self.assertEqual(stay(sign_team(), [[[1]], [[2]], [[3]]]), Ratio(0))
        self.assertEqual(stay(Team([[[Ratio(2, 3)]]]), [unit(24)]), Ratio(2 ** 24, 3 ** 24))
        self.assertEqual(stay(Team([[[0]]]), [[[5]]]), Ratio(0))
        self.assertIs(is_staying(sign_team(), TURNS), True)
        self.assertIs(is_staying(sign_team(), TURNS[:2]), False)

    def test_in_letters_of_volume_1(self):
        draw = Draw(264)
        for team in [sign_team(), *SQUARE[::5], *ALL[::9]]:
            other = in_letters(team, letters_of_volume_1(draw, team.tall), letters_of_volume_1(draw, team.wide))
            k = 1 if team.tall + team.wide > 5 else 2
            for helpers in (draw_helpers(draw, team, team.wide * k, team.tall * k), draw_helpers(draw, team, team.wide, team.tall)):
                self.assertEqual(stay(other, helpers), stay(team, helpers))
        other = in_letters(sign_team(), letters_of_volume_1(draw, 3), letters_of_volume_1(draw, 3))
        self.assertEqual(stay(other, TURNS), Ratio(-1))

    def test_by_powers(self):
        # Powers on the middle lines whose exponents add up to 0 are letters of volume 1.
        for number in (2, Ratio(-1, 3)):
            power = [[number, 0, 0], [0, Ratio(1).over(number), 0], [0, 0, 1]]
            self.assertEqual(volume(power), Ratio(1))
            self.assertEqual(stay(in_letters(sign_team(), power, power), TURNS), Ratio(-1))
            for team in FADING[::4]:
                helpers = [unit(2)] * team.many
                self.assertEqual(stay(faded(team, fading(team), number), helpers), stay(team, helpers))

    def test_helpers_in_letters(self):
        draw = Draw(265)
        for team in [sign_team(), *SQUARE[::7]]:
            helpers = draw_helpers(draw, team, 2, 2)
            left, right = draw.room(2, 2), draw.room(2, 2)
            other = [product(product(left, table), right) for table in helpers]
            factor = volume(left) * volume(right)
            told = stay(team, helpers)
            for _ in range(team.wide):
                told = told * factor
            self.assertEqual(stay(team, other), told)

    def test_great_helpers(self):
        draw = Draw(266)
        for team in (sign_team(), Team([draw.rows(4, 4) for _ in range(3)])):
            helpers = [[[draw.integer(9) for _ in range(12)] for _ in range(12)] for _ in range(3)]
            self.assertEqual(stay(team, helpers), eliminated_determinant(crossed(team, helpers)))
            self.assertIs(is_staying(team, helpers), True)
        helpers = [[[draw.integer(99) for _ in range(24)] for _ in range(24)] for _ in range(3)]
        self.assertIs(is_staying(sign_team(), helpers), True)
        self.assertIs(is_staying(remixed(sign_team(), [[1, 0, 0], [0, 1, 0], [1, 1, 0]]), helpers), False)

    def test_not_square(self):
        for team, tall, wide in [(sign_team(), 1, 2), (sign_team(), 24, 23), (NOT_SQUARE[0], 1, 1), (NOT_SQUARE[0], 1, 2),
                                 (NOT_SQUARE[1], 2, 1), (NOT_SQUARE[2], 2, 3), (NOT_SQUARE[3], 3, 4)]:
            helpers = [[[1] * wide] * tall] * team.many
            self.fails(NotSquare, {}, stay, team, helpers)
            self.fails(NotSquare, {}, stay, helpers=helpers, team=team)
            self.assertIs(is_staying(team, helpers), False)
        for team, tall, wide in [(NOT_SQUARE[0], 2, 1), (NOT_SQUARE[1], 1, 2), (NOT_SQUARE[2], 3, 2), (NOT_SQUARE[3], 4, 3)]:
            self.check(team, [[[1] * wide] * tall] * team.many)

    def test_errors(self):
        pair = Team([[[1, 0], [0, 0]], [[0, 1], [0, 0]]])
        for value in NO_TEAMS:
            self.fails_value(InvalidTeam, value, stay, value, None)
            self.fails_value(InvalidTeam, value, stay, helpers=[[[1, 2]]], team=value)
            self.fails_value(InvalidTeam, value, is_staying, value, None)
            self.fails(InvalidTeam, {"value": value}, is_staying, value=TURNS, team=value)
        for value in NO_HELPERS:
            self.fails_value(InvalidHelpers, value, stay, pair, value)
            self.fails_value(InvalidHelpers, value, stay, helpers=value, team=pair)


class Judged(Case):
    def test_any_value(self):
        for value in NO_HELPERS + [(ONE, ONE, [1, -1], [0, 0]), [ONE, ONE], (ONE, ONE)]:
            for team in (Team([[[1, 0], [0, 0]], [[0, 1], [0, 0]]]), sign_team(), NOT_SQUARE[0], Team([ONE] * 3)):
                # Some of these values are helpers of one of these teams.
                told = crossed_stays(team, value)
                self.assertIs(is_staying(team, value), told, value)

    def test_drawn_values(self):
        draw = Draw(267)
        seen = set()
        for team in ALL[::3]:
            for tall in (1, 2, 3):
                for wide in (1, 2, 3):
                    helpers = draw_helpers(draw, team, tall, wide)
                    found = is_staying(team, helpers)
                    square = tall * team.tall == wide * team.wide
                    self.assertIs(found, square and crossed_rank(team, helpers) == wide * team.wide)
                    seen.add((square, found))
        self.assertEqual(seen, {(False, False), (True, False), (True, True)})
        for team in NOT_SQUARE:
            self.assertIs(is_staying(team, [unit(2)] * team.many), False)

    def test_one_table_more_or_less(self):
        for team in (draw_team(Draw(268), 3, 2, 2), sign_team()):
            for helpers in ([unit(2)] * 2, [unit(2)] * 4, [], [unit(2)]):
                self.assertIs(is_staying(team, helpers), False)


def crossed_stays(team, value):
    """Whether the value is helpers of the team with a square crossed sum that can be undone, by calls that raise."""
    try:
        return stay(team, value) != Ratio(0)
    except (InvalidHelpers, NotSquare):
        return False


if __name__ == "__main__":
    unittest.main()
