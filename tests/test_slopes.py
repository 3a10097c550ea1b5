"""Slopes and the slope chain."""

import unittest
from fractions import Fraction
from itertools import combinations

from shrunkrooms.errors import InvalidTeam, TooMany
from shrunkrooms.lacks import lack
from shrunkrooms.makers import beside, pattern_team, remixed, sign_team, upright
from shrunkrooms.most import greatest_room, least_room
from shrunkrooms.ratios import Ratio
from shrunkrooms.slopes import slope_chain, slopes
from shrunkrooms.teams import Team, made, told_room
from tests.drawn_teams import NO_TEAMS, draw_team, in_drawn_letters, led_rooms, lossy_team, teams, teams_of_all_sides
from tests.tools import Case, Draw, digits_in, makes, other_kinds, ratios, reference_steps, unit

STEEP = pattern_team(3, 3, [(0, 1), (1, 2), (2, 2)])
ALL = [team for team in teams() + teams_of_all_sides() if team.tall <= 3 and team.wide <= 3]
ALL += [STEEP, in_drawn_letters(Draw(199), STEEP)[0], pattern_team(3, 3, [(0, 0), (0, 1), (1, 2), (2, 2)])]
TOO_GREAT = [Team([unit(4)]), Team([unit(4)[:1]]), Team([[row[:1] for row in unit(4)]]), Team([[[0] * 3] * 4]),
             Team([[[0] * 4] * 3])]


def quotient(slope):
    return Fraction(slope[0], slope[1])


def made_by(places, lot):
    return len({row for row, column in places if column in lot})


def chain_of_lots(places, wide):
    """The lots of columns of the slope chain: each time all those that hold the last one with the least quotient."""
    chain = [set()]
    while len(chain[-1]) < wide:
        last = chain[-1]
        further = [last | set(lot) for size in range(1, wide + 1) for lot in combinations(range(wide), size)
                   if set(lot) - last]
        told = [Fraction(made_by(places, lot) - made_by(places, last), len(lot) - len(last)) for lot in further]
        chain.append(set.union(*[lot for lot, of_lot in zip(further, told) if of_lot == min(told)]))
    return chain


def drawn_boards(seed, many):
    draw = Draw(seed)
    for _ in range(many):
        tall, wide = draw.count(1, 3), draw.count(1, 3)
        spots = [(i, j) for i in range(tall) for j in range(wide)]
        yield draw, tall, wide, sorted(draw.random.sample(spots, draw.count(1, len(spots))))


def together(first, last):
    """The slopes of two teams beside one another."""
    found = []
    for told in sorted(set(quotient(slope) for slope in first + last)):
        alike = [slope for slope in first + last if quotient(slope) == told]
        found.append((sum(slope[0] for slope in alike), sum(slope[1] for slope in alike)))
    return found


def great_number(draw):
    """A number with six digits above and below the stroke."""
    return Ratio(draw.integer(999999), draw.count(1, 999999))


class Boards(Case):
    def test_all_lots(self):
        seen = set()
        for draw, tall, wide, places in drawn_boards(200, 120):
            lots = chain_of_lots(places, wide)
            told = [(made_by(places, lot) - made_by(places, ahead), len(lot) - len(ahead))
                    for ahead, lot in zip(lots, lots[1:])]
            seen.update(quotient(slope) for slope in told)
            plain = pattern_team(tall, wide, places)
            for team, there in [(plain, unit(wide)), in_drawn_letters(draw, plain)]:
                self.assertEqual(self.told(slopes, team), told)
                rooms = self.told(slope_chain, team)
                self.assertEqual(rooms, [reference_steps(led_rooms(there, [unit(wide)[at] for at in sorted(lot)]))
                                         for lot in lots])
        self.assertEqual(sorted(seen), sorted({Fraction(far, size) for far in range(4) for size in (1, 2, 3)}))

    def test_each_quotient(self):
        # One list and m far ones, or s lists and one far one, and what has quotients between.
        column = Team([[[int(i == k)] for i in range(3)] for k in range(3)])
        self.assertEqual(slopes(column), [(3, 1)])
        row = Team([[[int(j == k) for j in range(3)]] for k in range(3)])
        self.assertEqual(slopes(row), [(1, 3)])
        # Tables that lead two lists to three far ones, and three to two, with no list apart.
        two_to_three = Team([[[1, 0], [0, 1], [0, 0]], [[0, 0], [1, 0], [0, 1]]])
        self.assertEqual(slopes(two_to_three), [(3, 2)])
        self.assertEqual(slopes(upright(two_to_three)), [(2, 3)])
        self.assertEqual(slopes(STEEP), [(0, 1), (1, 1), (2, 1)])
        self.assertEqual(slopes(sign_team()), [(3, 3)])
        self.assertEqual(slopes(remixed(sign_team(), unit(3)[:2])), [(1, 2), (2, 1)])
        self.assertEqual(slopes(Team([[[1, 0], [0, 0], [0, 0]], [[0, 0], [1, 0], [0, 1]]])), [(1, 1), (2, 1)])


class Chains(Case):
    def test_by_its_words(self):
        draw = Draw(201)
        lengths = []
        for team in ALL:
            rooms, told = self.told(slope_chain, team), self.told(slopes, team)
            self.assertEqual((rooms[0], rooms[-1]), ([], ratios(unit(team.wide))))
            self.assertEqual(len(rooms), len(told) + 1)
            for ahead, room, slope in zip(rooms, rooms[1:], told):
                self.assertIs(slope.__class__, tuple)
                self.assertEqual(room, told_room(team, room))
                self.assertTrue(makes(room, ahead))
                self.assertEqual(slope, (len(made(team, room)) - len(made(team, ahead)), len(room) - len(ahead)))
                for number in slope:
                    self.assert_count(number)
                self.assertGreater(slope[1], 0)
            for (m, s), (n, t) in zip(told, told[1:]):
                self.assertLess(m * t, n * s)
            for room in draw.rooms(team.wide) + draw.rooms(team.wide)[1:] + [least_room(team), greatest_room(team)]:
                for ahead, after, (n, t) in zip(rooms, rooms[1:], told):
                    if len(ahead) <= len(room) <= len(after):
                        self.assertGreaterEqual(t * (len(made(team, room)) - len(made(team, ahead))),
                                                n * (len(room) - len(ahead)))
            self.assertEqual(slopes(team=team), told)
            self.assertEqual(slope_chain(team=team), rooms)
            lengths.append(len(told))
        self.assertEqual(sorted(set(lengths)), [1, 2, 3])

    def test_sums_and_the_lack(self):
        for team in ALL:
            told = slopes(team)
            self.assertEqual(sum(slope[1] for slope in told), team.wide)
            self.assertEqual(sum(slope[0] for slope in told), len(made(team, unit(team.wide))))
            self.assertEqual(sum(size - far for far, size in told if far < size), lack(team))
            rooms = slope_chain(team)
            below = [room for room, slope in zip(rooms[1:], told) if slope[0] < slope[1]]
            at_most = [room for room, slope in zip(rooms[1:], told) if slope[0] <= slope[1]]
            self.assertEqual(([[]] + below)[-1], least_room(team))
            self.assertEqual(([[]] + at_most)[-1], greatest_room(team))

    def test_noughts(self):
        for tall in (1, 2, 3):
            for wide in (1, 2, 3):
                team = Team([[[0] * wide] * tall] * 2)
                self.assertEqual(slopes(team), [(0, wide)])
                self.assertEqual(slope_chain(team), [[], ratios(unit(wide))])

    def test_letters_and_mixed_anew(self):
        draw = Draw(202)
        for team in ALL[::2]:
            other, there = in_drawn_letters(draw, team)
            self.assertEqual(slopes(other), slopes(team))
            self.assertEqual(slope_chain(other), [reference_steps(led_rooms(there, room)) for room in slope_chain(team)])
            again = remixed(team, draw.room(team.many, team.many))
            self.assertEqual(slope_chain(again), slope_chain(team))
            self.assertEqual(slope_chain(Team(other_kinds(team.tables()))), slope_chain(team))

    def test_beside(self):
        draw = Draw(203)
        merged = 0
        for _ in range(60):
            many = draw.count(1, 3)
            first, last = draw_team(draw, many, draw.count(1, 2), draw.count(1, 2)), draw_team(draw, many, 1, 1)
            both = beside(first, last) if draw.count(0, 1) else beside(last, first)
            moved = in_drawn_letters(draw, both)[0]
            told = together(slopes(first), slopes(last))
            merged += len(told) < len(slopes(first)) + len(slopes(last))
            self.assertEqual(slopes(moved), told)
        self.assertGreater(merged, 5)

    def test_upright(self):
        for team in ALL:
            h = team.tall - len(made(team, unit(team.wide)))
            told = [(size, far) for far, size in slopes(team)[::-1] if far > 0]
            self.assertEqual(slopes(upright(team)), ([(0, h)] if h > 0 else []) + told)

    def test_least_quotients_that_mixtures_do_not_show(self):
        draw = Draw(204)
        for _ in range(20):
            tables = sign_team().tables()
            team = remixed(in_drawn_letters(draw, Team(tables))[0], draw.room(3, 3))
            self.assertEqual(slopes(team), [(3, 3)])
        for _ in range(20):
            team = lossy_team(draw, draw.count(1, 4), 3, 3)
            self.assertGreaterEqual(len(slope_chain(team)), 2)
            self.assertLess(digits_in(slope_chain(team)), 2000)

    def test_numbers_with_many_digits(self):
        draw = Draw(205)
        tables = [[[0 if i > j else great_number(draw) for j in range(3)] for i in range(3)] for _ in range(16)]
        team, there = in_drawn_letters(draw, Team(tables))
        self.assertEqual(slopes(team), [(3, 3)])
        tables = [[[great_number(draw) for j in range(3)], [0, great_number(draw), great_number(draw)], [0, 0, 0]] for _ in range(16)]
        team, there = in_drawn_letters(draw, Team(tables))
        self.assertEqual(slopes(team), [(2, 3)])
        tables = [[[great_number(draw) for j in range(3)], [0, 0, great_number(draw)], [0, 0, great_number(draw)]] for _ in range(16)]
        team, there = in_drawn_letters(draw, Team(tables))
        self.assertEqual(slopes(team), [(1, 2), (2, 1)])
        self.assertEqual(slope_chain(team)[1], reference_steps(led_rooms(there, unit(3)[:2])))


class Errors(Case):
    def test_no_teams(self):
        for value in NO_TEAMS:
            for function in (slopes, slope_chain):
                self.fails_value(InvalidTeam, value, function, value)
                self.fails_value(InvalidTeam, value, function, team=value)

    def test_more_than_three_places(self):
        for team in TOO_GREAT:
            for function in (slopes, slope_chain):
                with self.assertRaises(TooMany) as held:
                    function(team)
                self.assertEqual((held.exception.what, held.exception.limit), ("places", 3))


if __name__ == "__main__":
    unittest.main()
