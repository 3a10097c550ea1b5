"""Simple teams, chains, their pieces, block sizes."""

import unittest
from itertools import permutations

from shrunkrooms.alike import alike
from shrunkrooms.blocks import block_sizes, chain, is_chain, is_simple, pieces_of
from shrunkrooms.errors import InvalidChain, InvalidTeam, NotFull, TooMany
from shrunkrooms.lacks import is_full
from shrunkrooms.makers import behind, beside, in_letters, pattern_team, remixed, sign_team, upright, within
from shrunkrooms.ratios import Ratio
from shrunkrooms.teams import Team, loss, told_room
from shrunkrooms.tight import tight_room
from tests.drawn_teams import NO_TEAMS, SIMPLE, full_teams, in_drawn_letters, led_rooms, stacked, teams, teams_of_all_sides
from tests.test_teams import no_rooms
from tests.test_tight import FOUR, NOT_FULL
from tests.tools import (NO_LISTS, NO_TABLES, Case, Draw, digits_in, makes, other_kinds, product, ratios, tupled, unit)

CORNER = pattern_team(2, 2, [(0, 0), (0, 1), (1, 1)])
FOURS = [FOUR, beside(sign_team(), Team([[[1]], [[0]], [[0]]])), beside(CORNER, CORNER)]


def sizes_of(parts):
    return sorted(len(part[0]) for part in parts)


class IsSimple(Case):
    def test_put_together_teams(self):
        for team, there, parts, apart in full_teams(170):
            self.assertIs(self.told(is_simple, team), len(parts) == 1)
            self.assertIs(is_simple(team=team), len(parts) == 1)

    def test_teams_that_are_not_full(self):
        for team in NOT_FULL + [team for team in teams() + teams_of_all_sides() if not is_full(team)]:
            self.assertIs(is_simple(team), False)

    def test_told_ones(self):
        self.assertIs(is_simple(sign_team()), True)
        self.assertIs(is_simple(CORNER), False)
        self.assertIs(is_simple(Team([[[Ratio(1, 3)]]])), True)
        self.assertIs(is_simple(Team([[[0]], [[2]]])), True)
        self.assertIs(is_simple(Team([unit(2)])), False)
        self.assertIs(is_simple(Team([unit(2), [[0, 2], [1, 0]]])), True)
        self.assertIs(is_simple(Team([unit(2), [[0, 4], [1, 0]]])), False)
        every = [(i, j) for i in range(3) for j in range(3)]
        self.assertIs(is_simple(pattern_team(3, 3, every)), True)

    def test_one_room_or_none(self):
        for team, there, parts, apart in full_teams(171):
            self.assertIs(is_simple(team), tight_room(team) is None)
            self.assertIs(is_simple(upright(team)), is_simple(team))
            self.assertIs(is_simple(remixed(team, unit(3) + [[1, 2, 3]])), is_simple(team))


class Chains(Case):
    def test_put_together_teams(self):
        for team, there, parts, apart in full_teams(172):
            sizes = self.told(block_sizes, team)
            self.assertEqual(sizes, sizes_of(parts))
            for size in sizes:
                self.assert_count(size)
            found = self.told(chain, team)
            self.assertIs(found.__class__, list)
            self.assertEqual(len(found), len(parts) + 1)
            self.assertEqual((found[0], found[-1]), ([], ratios(unit(team.wide))))
            for ahead, room in zip(found, found[1:]):
                self.assertEqual(room, told_room(team, room))
                self.assertEqual(loss(team, room), 0)
                self.assertTrue(makes(room, ahead))
                self.assert_ratios(room)
            self.assertLess(digits_in(found), 2000)
            self.assertIs(self.told(is_chain, team, found), True)
            self.assertEqual(chain(team=team), found)
            self.assertEqual(block_sizes(team=team), sizes)

    def test_the_chain_along_the_middle_line(self):
        for team, there, parts, apart in full_teams(173):
            ends = [sum(len(part[0]) for part in parts[:at]) for at in range(len(parts) + 1)]
            along = [led_rooms(there, unit(team.wide)[:end]) for end in ends]
            self.assertIs(is_chain(team, along), True)
            pieces = self.told(pieces_of, team, along)
            for piece, part in zip(pieces, parts):
                self.assertIs(is_simple(piece), True)
                # In the letters of the part: left and right tables lead the one to the other.
                self.assertIsNotNone(alike(piece, Team(part)))

    def test_pieces(self):
        for team, there, parts, apart in full_teams(174):
            rooms = chain(team)
            pieces = self.told(pieces_of, team, rooms)
            self.assertEqual([piece.wide for piece in pieces],
                             [len(room) - len(ahead) for ahead, room in zip(rooms, rooms[1:])])
            self.assertEqual(sorted(piece.wide for piece in pieces), block_sizes(team))
            for piece in pieces:
                self.assertIs(piece.__class__, Team)
                self.assertEqual((piece.many, piece.tall), (team.many, piece.wide))
                self.assertIs(is_simple(piece), True)
            self.assertTrue(any(all(piece.wide == len(part[0]) and alike(piece, Team(part)) is not None
                                    for piece, part in zip(pieces, way)) for way in permutations(parts)))
            self.assertEqual(pieces_of(chain=tupled(rooms), team=team), pieces)
            self.assertEqual(pieces_of(team, other_kinds(rooms)), pieces)

    def test_pieces_by_their_words(self):
        for team, there, parts, apart in full_teams(175):
            rooms = chain(team)
            for piece, ahead, room in zip(pieces_of(team, rooms), rooms, rooms[1:]):
                heads = [[number.sign != 0 for number in row].index(True) for row in room]
                inner = within(team, room)
                self.assertEqual(piece, behind(inner, [[row[head] for head in heads] for row in ahead]))
            self.assertEqual(pieces_of(team, rooms)[0], within(team, rooms[1]))
            if team.wide > len(rooms[-2]):
                self.assertEqual(pieces_of(team, rooms)[-1], behind(team, rooms[-2]))

    def test_told_by_other_rows(self):
        draw = Draw(176)
        for team, there, parts, apart in full_teams(177):
            rooms = chain(team)
            other = [product(draw.room(len(room), len(room)), room) if room else () for room in rooms]
            self.assertIs(is_chain(team, other), True)
            self.assertIs(is_chain(value=tupled(other), team=team), True)
            self.assertEqual(pieces_of(team, other), pieces_of(team, rooms))

    def test_chains_with_one_thing_otherwise(self):
        draw = Draw(178)
        for team, there, parts, apart in full_teams(179):
            rooms = chain(team)
            wrong = [rooms[:at] + rooms[at + 1:] for at in range(len(rooms))]
            wrong += [rooms[:at] + [rooms[at]] + rooms[at:] for at in range(len(rooms))]
            wrong += [rooms[::-1]] if len(rooms) > 1 else []
            wrong += [rooms[:at] + [value] + rooms[at + 1:] for at in range(len(rooms))
                      for value in (None, 1, [[]], [[0] * team.wide], [[1] * (team.wide + 1)], "", {}, [None])]
            for at, room in enumerate(rooms[1:-1]):
                other = draw.room(team.wide, len(room))
                if loss(team, other) != 0:
                    wrong.append(rooms[:at + 1] + [other] + rooms[at + 2:])
                wrong.append(rooms[:at + 1] + [room + room] + rooms[at + 2:])
            if team.wide > 1 and len(parts) == 1:
                wrong.append([[], unit(team.wide)[:1], unit(team.wide)])
            for value in wrong:
                self.assertIs(is_chain(team, value), False, value)
                self.fails_value(InvalidChain, value, pieces_of, team, value)

    def test_rooms_that_are_not_within_the_next_one(self):
        # Of a team in which each room is tight.
        team = Team([unit(3)])
        self.assertIs(is_chain(team, [[], [[1, 0, 0]], [[1, 0, 0], [0, 1, 0]], unit(3)]), True)
        self.assertIs(is_chain(team, [[], [[0, 0, 1]], [[1, 0, 0], [0, 1, 0]], unit(3)]), False)
        self.assertIs(is_chain(team, [[], [[1, 0, 0], [0, 1, 0]], [[1, 0, 0]], unit(3)]), False)
        self.assertIs(is_chain(team, [[], [[1, 0, 0]], unit(3)]), False)
        self.assertIs(is_chain(team, [[], [[1, 0, 0], [0, 1, 0]], unit(3)]), False)
        self.assertIs(is_chain(team, [[], [[1, 2, 3]], [[1, 2, 3], [3, 2, 1]], [[1, 1, 1], [0, 1, 2], [0, 0, 5]]]), True)
        self.assertIs(is_chain(team, [[], unit(3)]), False)
        self.assertIs(is_chain(sign_team(), [[], unit(3)]), True)
        self.assertIs(is_chain(sign_team(), [[], [[1, 2, 3]], unit(3)]), False)

    def test_any_value(self):
        for team in (sign_team(), CORNER, Team([[[3]]])):
            for value in NO_LISTS + NO_TABLES + no_rooms(3) + [[], (), [[]], [[], []], [[[]]], team, [team], [[], 5]]:
                self.assertIs(is_chain(team, value), False, value)
                self.fails_value(InvalidChain, value, pieces_of, team, value)
        self.assertIs(is_chain(Team([[[3]]]), [[], [[1]]]), True)
        self.assertIs(is_chain(Team([[[3]]]), ((), ((Ratio(5, 2),),))), True)
        self.assertIs(is_chain(Team([[[3]]]), [[[1]], []]), False)
        self.assertIs(is_chain(Team([[[3]]]), [[], [[True]]]), False)
        self.assertIs(is_chain(Team([[[3]]]), {0: [], 1: [[1]]}), False)

    def test_block_sizes_beside_one_another(self):
        draw = Draw(180)
        for _ in range(12):
            first = stacked(draw, [draw.random.choice(SIMPLE[1])], True)
            last = stacked(draw, [draw.random.choice(SIMPLE[draw.count(1, 2)])], True)
            both = in_drawn_letters(draw, beside(first, last))[0]
            self.assertEqual(block_sizes(both), sorted(block_sizes(first) + block_sizes(last)))
            self.assertEqual(block_sizes(upright(both)), block_sizes(both))

    def test_numbers_with_many_digits(self):
        draw = Draw(181)
        tables = [[[Ratio(0) if i > j else Ratio(draw.integer(999999), draw.count(1, 999999)) for j in range(3)]
                   for i in range(3)] for _ in range(16)]
        team, there = in_drawn_letters(draw, Team(tables))
        found = chain(team)
        self.assertEqual(block_sizes(team), [1, 1, 1])
        self.assertEqual(found, [told_room(team, led_rooms(there, unit(3)[:size])) for size in range(4)])
        self.assertLess(digits_in(found), 2000)
        self.assertEqual(len(pieces_of(team, found)), 3)


class Errors(Case):
    def test_no_teams(self):
        for value in NO_TEAMS:
            for function in (is_simple, block_sizes, chain):
                self.fails_value(InvalidTeam, value, function, value)
                self.fails_value(InvalidTeam, value, function, team=value)
            for function in (is_chain, pieces_of):
                self.fails_value(InvalidTeam, value, function, value, None)
            self.fails(InvalidTeam, {"value": value}, is_chain, value=[], team=value)
            self.fails(InvalidTeam, {"value": value}, pieces_of, chain=[], team=value)

    def test_teams_that_are_not_full(self):
        lossy = [team for team in teams() + teams_of_all_sides() if not is_full(team)]
        for team in NOT_FULL + lossy[::3]:
            self.fails(NotFull, {}, block_sizes, team)
            self.fails(NotFull, {}, chain, team)
            for value in (None, [], [[], unit(team.wide)]):
                self.fails(NotFull, {}, is_chain, team, value)
                self.fails(NotFull, {}, pieces_of, team, value)

    def test_four_places(self):
        for team in FOURS + [in_letters(FOURS[1], Draw(182).room(4, 4), unit(4))]:
            for function in (is_simple, block_sizes, chain):
                self.too_many(function, team)
            for value in (None, [], [[], unit(4)], [[], unit(4)[:1], unit(4)[:2], unit(4)[:3], unit(4)]):
                self.too_many(is_chain, team, value)
                self.too_many(pieces_of, team, value)

    def too_many(self, function, *given):
        with self.assertRaises(TooMany) as held:
            function(*given)
        self.assertEqual((held.exception.what, held.exception.limit), ("places", 3))


if __name__ == "__main__":
    unittest.main()
