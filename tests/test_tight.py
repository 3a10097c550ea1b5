"""Tight rooms of full teams."""

import unittest
from itertools import combinations

from shrunkrooms.errors import InvalidRoom, InvalidTeam, NotFull, TooMany
from shrunkrooms.helpers import crossed
from shrunkrooms.lacks import free_helpers, is_full
from shrunkrooms.makers import behind, beside, in_letters, pattern_team, remixed, sign_team, upright, within
from shrunkrooms.most import least_with
from shrunkrooms.ratios import Ratio
from shrunkrooms.steps import joined, level, shared
from shrunkrooms.tables import undone
from shrunkrooms.teams import Team, loss, made, told_room
from shrunkrooms.tight import is_tight, least_tight, tight_room
from tests.drawn_teams import NO_TEAMS, SIMPLE, full_teams, in_drawn_letters, led_rooms, stacked, teams, teams_of_all_sides
from tests.test_teams import no_rooms
from tests.tools import Case, Draw, digits_in, makes, other_kinds, product, ratios, reference_steps, tupled, unit

CORNER = pattern_team(2, 2, [(0, 0), (0, 1), (1, 1)])
FOUR = Team([unit(4)])
NOT_FULL = [Team([[[1, 0]]]), Team([[[1], [0]]]), Team([[[0]]]), Team([[[1, 2], [2, 4]]]), Team([[[0] * 4] * 4]),
            Team([[[0] * 4] * 3]), Team([unit(4)[:3]]), Team([[row[:3] for row in unit(4)]]), Team([unit(4)[:3] + [[0] * 4]]),
            remixed(sign_team(), unit(3)[:2])]


def blocks_of(parts):
    """The places of each part along the middle line."""
    found, start = [], 0
    for part in parts:
        found.append(list(range(start, start + len(part[0]))))
        start += len(part[0])
    return found


class IsTight(Case):
    def test_by_its_words(self):
        draw = Draw(130)
        seen = []
        for team, there, parts, apart in full_teams(131):
            for room in draw.rooms(team.wide) + [led_rooms(there, unit(team.wide)[:size]) for size in range(team.wide + 1)]:
                found = self.told(is_tight, team, room)
                self.assertIs(found, len(made(team, room)) == len(room))
                self.assertIs(is_tight(room=other_kinds(room), team=team), found)
                seen.append(found)
        self.assertIn(True, seen)
        self.assertIn(False, seen)

    def test_the_parts_are_tight(self):
        for team, there, parts, apart in full_teams(132):
            start = 0
            for part in parts:
                start += len(part[0])
                self.assertIs(is_tight(team, led_rooms(there, unit(team.wide)[:start])), True)
            for room in ([], unit(team.wide)):
                self.assertIs(is_tight(team, room), True)
            if apart:
                for size in range(len(parts) + 1):
                    for lot in combinations(blocks_of(parts), size):
                        rows = [unit(team.wide)[place] for places in lot for place in places]
                        self.assertIs(is_tight(team, led_rooms(there, rows)), True)

    def test_whichever_rows_tell_the_room(self):
        draw = Draw(133)
        for team, there, parts, apart in full_teams(134):
            for room in draw.rooms(team.wide)[1:] + [led_rooms(there, unit(team.wide)[:1])]:
                other = product(draw.room(len(room), len(room)), room)
                self.assertIs(is_tight(team, other), is_tight(team, room))
                self.assertEqual(least_tight(team, other), least_tight(team, room))

    def test_exactly_the_rooms_that_each_keeper_keeps(self):
        draw = Draw(135)
        for team, there, parts, apart in full_teams(136):
            helpers = free_helpers(team)
            great = [[[draw.integer(50) for _ in range(3)] for _ in range(3)] for _ in range(team.many)]
            for given in [helpers, great]:
                k = len(given[0])
                back = undone(crossed(team, given))
                keepers = [product([row[a::k] for row in back[c::k]], table)
                           for a in range(k) for c in range(k) for table in team.tables()]
                for room in draw.rooms(team.wide) + [led_rooms(there, unit(team.wide)[:1])]:
                    kept = all(makes(room, led_rooms(keeper, room)) for keeper in keepers)
                    self.assertIs(is_tight(team, room), kept)

    def test_upright(self):
        draw = Draw(137)
        for team, there, parts, apart in full_teams(138):
            for room in draw.rooms(team.wide) + [led_rooms(there, unit(team.wide)[:1])]:
                if is_tight(team, room):
                    there = level(made(team, room), team.tall)
                    self.assertIs(is_tight(upright(team), there), True)
                    self.assertEqual(level(made(upright(team), there), team.wide), told_room(team, room))


class LeastTight(Case):
    def test_drawn_rooms(self):
        draw = Draw(139)
        for team, there, parts, apart in full_teams(140):
            for room in draw.rooms(team.wide) + [led_rooms(there, [unit(team.wide)[-1]])]:
                found = self.told(least_tight, team, room)
                self.assertEqual(found, told_room(team, found))
                self.assertEqual(loss(team, found), 0)
                self.assertTrue(makes(found, room))
                self.assertIs(is_tight(team, room), len(found) == len(room))
                self.assertEqual(least_tight(room=other_kinds(room), team=team), found)
                self.assertEqual(least_tight(team, tupled(room)), found)
                self.assert_ratios(found)
                self.assertEqual(found, least_with(team, room))

    def test_parts_that_are_unlike(self):
        draw = Draw(141)
        for sizes in [(1, 1), (1, 2), (2, 1), (1, 1, 1)]:
            for _ in range(6):
                parts = [SIMPLE[size][at] for at, size in enumerate(sizes)]
                team, there = in_drawn_letters(draw, stacked(draw, parts, False))
                blocks = blocks_of(parts)
                for size in range(1, len(parts) + 1):
                    for lot in combinations(blocks, size):
                        rows = [unit(team.wide)[place] for places in lot for place in places]
                        inner = [sum([row * draw.random.choice([1, 2, -3]) for row in column]) for column in zip(*rows)]
                        # A list with something of each block of the lot, as these are simple and unlike.
                        self.assertEqual(least_tight(team, led_rooms(there, [inner])),
                                         reference_steps(led_rooms(there, rows)))

    def test_among_more_tight_rooms(self):
        # Each room is tight, or each that holds the first place.
        draw = Draw(142)
        for _ in range(10):
            for size in (1, 2):
                room = draw.room(3, size)
                self.assertEqual(least_tight(Team([unit(3)]), room), reference_steps(room))
        steep = Team([unit(3), [[0, 1, 0], [0, 0, 1], [0, 0, 0]]])
        self.assertEqual(least_tight(steep, [[0, 1, 0]]), ratios(unit(3)[:2]))
        self.assertEqual(least_tight(steep, [[5, 7, 0]]), ratios(unit(3)[:2]))
        self.assertEqual(least_tight(steep, [[0, 7, 1]]), ratios(unit(3)))
        self.assertEqual(least_tight(steep, [[9, 0, 0]]), ratios(unit(3)[:1]))
        self.assertEqual(least_tight(steep, []), [])


class TightRoom(Case):
    def test_there_is_one_exactly_of_several_parts(self):
        for team, there, parts, apart in full_teams(143):
            found = self.told(tight_room, team)
            self.assertEqual(tight_room(team=team), found)
            if len(parts) == 1:
                self.assertIsNone(found)
                continue
            self.assertEqual(found, told_room(team, found))
            self.assertIs(is_tight(team, found), True)
            self.assertTrue(0 < len(found) < team.wide)
            self.assert_ratios(found)
            self.assertLess(digits_in(found), 2000)
            self.assertIsNotNone(tight_room(upright(team)))

    def test_only_one_room_between(self):
        draw = Draw(144)
        for first, last in [(1, 2), (2, 1)]:
            for _ in range(8):
                parts = [draw.random.choice(SIMPLE[first]), draw.random.choice(SIMPLE[last])]
                base = stacked(draw, parts, True)
                team, there = in_drawn_letters(draw, base)
                found = tight_room(team)
                held = reference_steps(led_rooms(there, unit(3)[:first]))
                if found != held:
                    # Then the team falls apart: the other one has the other size.
                    self.assertEqual(len(found), last)
                    self.assertEqual(len(joined(found, held)), 3)

    def test_fractions_and_further_numbers(self):
        one = unit(2)
        for number, told in [(2, None), (3, None), (-1, None), (4, 1), (1, 1), (0, 1), (Ratio(9, 16), 1), (Ratio(1, 2), None),
                             (Ratio(4, 3), None), (999999, None), (998001, 1)]:
            found = tight_room(Team([one, [[0, number], [1, 0]]]))
            self.assertEqual(None if found is None else len(found), told, number)
        three = unit(3)
        for number, told in [(2, None), (8, 1), (Ratio(1, 27), 1), (-1, 1), (4, None), (Ratio(8, 9), None), (970299, 1)]:
            found = tight_room(Team([three, [[0, 0, number], [1, 0, 0], [0, 1, 0]]]))
            self.assertEqual(None if found is None else len(found), told, number)
        # A quadratic number and a fraction: one room of either size.
        both = Team([three, [[0, 2, 0], [1, 0, 0], [0, 0, 5]]])
        self.assertIn(tight_room(both), [ratios([[0, 0, 1]]), ratios([[1, 0, 0], [0, 1, 0]])])
        steep = Team([three, [[0, 2, 0], [1, 0, 0], [0, 1, 5]]])
        self.assertEqual(tight_room(steep), ratios([[0, 0, 1]]))
        self.assertEqual(tight_room(Team([three, [[0, 2, 1], [1, 0, 0], [0, 0, 0]], [[0] * 3] * 2 + [[0, 0, 1]]])),
                         ratios([[1, 0, 0], [0, 1, 0]]))

    def test_several_tables_that_agree_nowhere(self):
        # Each table alone keeps rooms, no room is kept by all.
        team = Team([unit(3), [[1, 0, 0], [0, 2, 0], [0, 0, 3]], [[0, 0, 1], [1, 0, 0], [0, 1, 0]]])
        self.assertIsNone(tight_room(team))
        team = Team([unit(3), [[1, 0, 0], [0, 2, 0], [0, 0, 2]], [[1, 0, 0], [0, 3, 1], [0, 0, 4]]])
        found = tight_room(team)
        self.assertIs(is_tight(team, found), True)
        every = [(i, j) for i in range(3) for j in range(3)]
        self.assertIsNone(tight_room(pattern_team(3, 3, every)))
        self.assertEqual(tight_room(pattern_team(3, 3, [(i, j) for i, j in every if j > 0 or i == 0])), ratios([[1, 0, 0]]))
        self.assertEqual(tight_room(pattern_team(3, 3, [(i, j) for i, j in every if j == 2 or i < 2])), ratios(unit(3)[:2]))

    def test_one_place(self):
        for number in (1, -3, Ratio(1, 7)):
            self.assertIsNone(tight_room(Team([[[number]]] * 3)))

    def test_numbers_with_many_digits(self):
        draw = Draw(145)
        def number():
            return Ratio(draw.integer(999999), draw.count(1, 999999))
        for size in (1, 2):
            tables = [[[Ratio(0) if i >= size > j else number() for j in range(3)] for i in range(3)] for _ in range(16)]
            team, there = in_drawn_letters(draw, Team(tables))
            found = self.told(tight_room, team)
            self.assertEqual(found, reference_steps(led_rooms(there, unit(3)[:size])))
            self.assertLess(digits_in(found), 2000)
        self.assertIsNone(tight_room(Team([[[number() for _ in range(3)] for _ in range(3)] for _ in range(16)])))


class Facts(Case):
    def test_joined_and_shared(self):
        for team, there, parts, apart in full_teams(146):
            if apart and len(parts) > 1:
                rooms = [led_rooms(there, [unit(team.wide)[place] for place in places]) for places in blocks_of(parts)]
                for room in rooms:
                    for other in rooms + [tight_room(team)]:
                        both, common = joined(room, other), shared(room, other)
                        self.assertIs(is_tight(team, both), True)
                        self.assertIs(is_tight(team, common), True)
                        self.assertEqual(made(team, both), joined(made(team, room), made(team, other)))
                        self.assertEqual(made(team, common), shared(made(team, room), made(team, other)))

    def test_within_and_behind_are_full(self):
        for team, there, parts, apart in full_teams(147):
            if len(parts) > 1:
                room = tight_room(team)
                self.assertIs(is_full(within(team, room)), True)
                self.assertIs(is_full(behind(team, room)), True)

    def test_letters_and_mixed_anew(self):
        draw = Draw(148)
        for team, there, parts, apart in full_teams(149):
            other, moved = in_drawn_letters(draw, team)
            again = remixed(team, draw.room(team.many, team.many))
            for room in draw.rooms(team.wide) + [led_rooms(there, unit(team.wide)[:1])]:
                self.assertIs(is_tight(other, led_rooms(moved, room)), is_tight(team, room))
                self.assertIs(is_tight(again, room), is_tight(team, room))
            self.assertEqual(tight_room(other) is None, tight_room(team) is None)


class Errors(Case):
    def test_wrong_teams_and_rooms(self):
        for value in NO_TEAMS:
            self.fails_value(InvalidTeam, value, tight_room, value)
            self.fails_value(InvalidTeam, value, tight_room, team=value)
            for function in (is_tight, least_tight):
                self.fails_value(InvalidTeam, value, function, value, None)
                self.fails_value(InvalidTeam, value, function, room=[[0]], team=value)
        for value in no_rooms(3):
            # Also of teams that are not full: that error comes behind.
            for team in (sign_team(), Team([[[0] * 3] * 3]), Team([[[1, 2, 3]]])):
                for function in (is_tight, least_tight):
                    self.fails_value(InvalidRoom, value, function, team, value)
                    self.fails_value(InvalidRoom, value, function, room=value, team=team)
        for value in no_rooms(4):
            for function in (is_tight, least_tight):
                self.fails_value(InvalidRoom, value, function, FOUR, value)

    def test_teams_that_are_not_full(self):
        lossy = [team for team in teams() + teams_of_all_sides() if not is_full(team)]
        for team in NOT_FULL + lossy[::3]:
            self.fails(NotFull, {}, tight_room, team)
            for room in ([], unit(team.wide)[:1], unit(team.wide)):
                self.fails(NotFull, {}, is_tight, team, room)
                self.fails(NotFull, {}, least_tight, room=room, team=team)

    def test_four_places(self):
        four = [FOUR, beside(sign_team(), Team([[[1]], [[0]], [[0]]])), beside(CORNER, CORNER)]
        four.append(in_letters(four[1], Draw(150).room(4, 4), unit(4)))
        for team in four:
            for room in ([], unit(4)[:2], unit(4)):
                with self.assertRaises(TooMany) as held:
                    is_tight(team, room)
                self.assertEqual((held.exception.what, held.exception.limit), ("places", 3))
                with self.assertRaises(TooMany) as held:
                    least_tight(team, room)
                self.assertEqual((held.exception.what, held.exception.limit), ("places", 3))
            with self.assertRaises(TooMany) as held:
                tight_room(team)
            self.assertEqual((held.exception.what, held.exception.limit), ("places", 3))


if __name__ == "__main__":
    unittest.main()
