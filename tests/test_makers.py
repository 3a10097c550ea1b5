"""Teams made of teams, of rooms, of patterns and lists."""

import unittest

from shrunkrooms.errors import (InvalidLetters, InvalidLists, InvalidMany, InvalidNumbers, InvalidPlace, InvalidPlaces,
                                InvalidRoom, InvalidTable, InvalidTeam, NothingLeft, TooMany, UnlikeMany)
from shrunkrooms.makers import (behind, beside, in_letters, pairs_team, pattern_team, remixed, sign_team, upright, with_table,
                                within, without)
from shrunkrooms.ratios import Ratio
from shrunkrooms.steps import joined, level
from shrunkrooms.teams import Team, does, loss, made, told_room
from tests.drawn_teams import NO_TEAMS, draw_team, teams
from tests.test_teams import no_rooms
from tests.tools import (NO_COUNTS, NO_LISTS, NO_TABLES, Case, Draw, about, makes, product, ratios, reference_rank,
                         tupled, unit)

NARROW = Team([[[1, 0], [0, 0]], [[0, 1], [0, 0]]])
FULL = Team([[[1, 2, 3, 4]] * 4] * 16)


class Upright(Case):
    def test_drawn_teams(self):
        for team in teams():
            found = self.told(upright, team)
            self.assertEqual(found.tables(), [about(table) for table in team.tables()])
            self.assertEqual((found.many, found.tall, found.wide), (team.many, team.wide, team.tall))
            self.assertEqual(upright(team=found), team)

    def test_no_team(self):
        for value in NO_TEAMS:
            self.fails_value(InvalidTeam, value, upright, value)


class InLetters(Case):
    def test_drawn_teams(self):
        draw = Draw(30)
        for team in teams():
            left, right = draw.room(team.tall, team.tall), draw.room(team.wide, team.wide)
            found = self.told(in_letters, team, left, right)
            self.assertEqual(found.tables(), [product(product(left, table), right) for table in team.tables()])
            self.assertEqual(in_letters(right=tupled(right), left=tupled(left), team=team), found)
            self.assertEqual(in_letters(team, unit(team.tall), unit(team.wide)), team)

    def test_what_letters_do(self):
        draw = Draw(31)
        for team in teams():
            left, right = draw.room(team.tall, team.tall), draw.room(team.wide, team.wide)
            found = in_letters(team, left, right)
            mixture = draw.row(team.wide)
            for place in range(team.many):
                moved = [row[0] for row in product(right, [[number] for number in mixture])]
                there = product(left, [[number] for number in does(team, place, moved)])
                self.assertEqual(does(found, place, mixture), [row[0] for row in there])
            for room in draw.rooms(team.wide)[1:]:
                # A room in the letters loses as much as where the right letters lead it.
                self.assertEqual(loss(found, room), loss(team, about(product(right, about(room)))))

    def test_wrong_values(self):
        team = Team([[[1, 2, 3], [0, 1, 1]]])
        good_left, good_right = unit(2), unit(3)
        for value in NO_TABLES + [[], (), [[1]], unit(4), [[1, 2], [2, 4]], [[0, 0], [0, 0]], [[1, 0]], [[1, 0]] * 2,
                                  [[1, 0], [0, 1], [0, 0]], [[1, 0, 0], [0, 1, 0]], [[1, 0], [0, True]]]:
            self.fails_value(InvalidLetters, value, in_letters, team, value, good_right)
            self.fails_value(InvalidLetters, value, in_letters, team, value, [[1]])
            self.fails_value(InvalidLetters, value, in_letters, team, good_left, value)
            self.fails_value(InvalidLetters, value, in_letters, right=value, left=good_left, team=team)
        self.fails_value(InvalidLetters, good_right, in_letters, team, good_right, good_left)
        for value in NO_TEAMS:
            self.fails_value(InvalidTeam, value, in_letters, value, [[0]], None)


class Remixed(Case):
    def test_drawn_teams(self):
        draw = Draw(32)
        for team in teams():
            for many in (1, 2, 16):
                numbers = draw.rows(many, team.many)
                found = self.told(remixed, team, numbers)
                flat = [[number for row in table for number in row] for table in team.tables()]
                self.assertEqual([[number for row in table for number in row] for table in found.tables()],
                                 product(numbers, flat))
                self.assertEqual((found.many, found.tall, found.wide), (many, team.tall, team.wide))
                self.assertEqual(remixed(numbers=tupled(numbers), team=team), found)
            self.assertEqual(remixed(team, unit(team.many)), team)

    def test_wrong_values(self):
        for value in NO_TABLES + [[], (), [[1]], [[1, 2, 3]], [[1, 2]] * 17, [[1, 2], [1]], [[1, True]]]:
            self.fails_value(InvalidNumbers, value, remixed, NARROW, value)
            self.fails_value(InvalidNumbers, value, remixed, numbers=value, team=NARROW)
        for value in NO_TEAMS:
            self.fails_value(InvalidTeam, value, remixed, value, None)
        self.assertEqual(remixed(FULL, [[0] * 16]).tables(), [ratios([[0] * 4] * 4)])


class Beside(Case):
    def test_drawn_teams(self):
        draw = Draw(33)
        for _ in range(30):
            many = draw.count(1, 16)
            tall, wide = draw.count(1, 3), draw.count(1, 3)
            first = draw_team(draw, many, tall, wide)
            last = draw_team(draw, many, draw.count(1, 4 - tall), draw.count(1, 4 - wide))
            found = self.told(beside, first, last)
            self.assertEqual((found.many, found.tall, found.wide), (many, tall + last.tall, wide + last.wide))
            for table, one, two in zip(found.tables(), first.tables(), last.tables()):
                self.assertEqual([row[:wide] for row in table[:tall]], one)
                self.assertEqual([row[wide:] for row in table[tall:]], two)
                rest = [row[wide:] for row in table[:tall]] + [row[:wide] for row in table[tall:]]
                self.assertTrue(all(number == Ratio(0) for row in rest for number in row))
            self.assertEqual(beside(other=last, team=first), found)
            for near in draw.rooms(wide):
                for late in draw.rooms(last.wide):
                    both = [row + [0] * last.wide for row in near] + [[0] * wide + row for row in late]
                    self.assertEqual(loss(found, both), loss(first, near) + loss(last, late))

    def test_wrong_values(self):
        for value in NO_TEAMS:
            self.fails_value(InvalidTeam, value, beside, value, "other")
            self.fails_value(InvalidTeam, value, beside, sign_team(), value)
            self.fails_value(InvalidTeam, value, beside, other=value, team=NARROW)
        self.fails(UnlikeMany, {}, beside, NARROW, Team([[[1]]]))
        self.fails(UnlikeMany, {}, beside, sign_team(), NARROW)
        for first, last in [((3, 1), (2, 1)), ((1, 3), (1, 2)), ((4, 1), (1, 1)), ((1, 1), (1, 4)), ((4, 4), (4, 4))]:
            one, two = [Team([[[1] * wide] * tall]) for tall, wide in (first, last)]
            with self.assertRaises(TooMany) as held:
                beside(one, two)
            self.assertEqual((held.exception.what, held.exception.limit), ("places", 4))
        self.assertEqual(beside(Team([[[1] * 3]]), Team([[[2]] * 3])).tables(),
                         [ratios([[1, 1, 1, 0], [0, 0, 0, 2], [0, 0, 0, 2], [0, 0, 0, 2]])])


class FewerAndMore(Case):
    def test_without(self):
        for team in teams():
            if team.many == 1:
                continue
            for place in range(team.many):
                found = self.told(without, team, place)
                tables = team.tables()
                del tables[place]
                self.assertEqual(found.tables(), tables)
                self.assertEqual(without(place=place, team=team), found)

    def test_without_wrong_values(self):
        for value in NO_TEAMS:
            self.fails_value(InvalidTeam, value, without, value, -1)
        for value in NO_COUNTS + [2, 10 ** 29]:
            self.fails_value(InvalidPlace, value, without, NARROW, value)
            self.fails_value(InvalidPlace, value, without, place=value, team=NARROW)
        self.fails_value(InvalidPlace, 1, without, Team([[[1]]]), 1)
        self.fails(NothingLeft, {}, without, Team([[[1]]]), 0)

    def test_with_table(self):
        draw = Draw(34)
        for team in teams():
            table = draw.rows(team.tall, team.wide)
            if team.many < 16:
                found = self.told(with_table, team, table)
                self.assertEqual(found.tables(), team.tables() + [ratios(table)])
                self.assertEqual(with_table(table=tupled(table), team=team), found)
                self.assertEqual(without(found, team.many), team)
        self.assertEqual(with_table(Team([[[1]]] * 15), [[2]]).many, 16)

    def test_with_table_wrong_values(self):
        for value in NO_TEAMS:
            self.fails_value(InvalidTeam, value, with_table, value, None)
        for value in NO_TABLES + [[], (), [[1]], unit(3), [[1, 0, 0], [0, 1, 0]], [[1, 0]] * 3, [[1, 0]], [[1], [0]],
                                  [[1, True]] * 2]:
            self.fails_value(InvalidTable, value, with_table, NARROW, value)
            self.fails_value(InvalidTable, value, with_table, table=value, team=NARROW)
            self.fails_value(InvalidTable, value, with_table, FULL, value)
        for _ in range(2):
            with self.assertRaises(TooMany) as held:
                with_table(FULL, [[0] * 4] * 4)
            self.assertEqual((held.exception.what, held.exception.limit), ("tables", 16))


def heads(rows):
    return [[number.sign != 0 for number in row].index(True) for row in rows]


class BehindAndWithin(Case):
    def drawn(self, seed):
        draw = Draw(seed)
        for team in teams():
            for room in draw.rooms(team.wide):
                yield draw, team, room, told_room(team, room), made(team, room)

    def test_behind(self):
        seen = 0
        for draw, team, room, near, far in self.drawn(35):
            if len(near) == team.wide or len(far) == team.tall:
                self.fails(NothingLeft, {}, behind, team, room)
                continue
            seen += 1
            found = self.told(behind, team, room)
            self.assertEqual(behind(room=tupled(room), team=team), found)
            self.assertEqual(behind(team, near), found)
            places = [place for place in range(team.wide) if place not in heads(near)]
            far_places = [place for place in range(team.tall) if place not in heads(far)]
            self.assertEqual((found.many, found.tall, found.wide), (team.many, len(far_places), len(places)))
            for at in range(team.many):
                for k, place in enumerate(places):
                    one = [int(j == place) for j in range(team.wide)]
                    image = does(team, at, one)
                    # What stands behind differs from the image by a list made of the far room, and has 0 at its heads.
                    left = does(found, at, [int(j == k) for j in range(len(places))])
                    whole = [left[far_places.index(i)] if i in far_places else Ratio(0) for i in range(team.tall)]
                    self.assertTrue(makes(far, [[a - b for a, b in zip(image, whole)]]))
        self.assertGreater(seen, 30)

    def test_losses_add_up(self):
        for draw, team, room, near, far in self.drawn(36):
            if len(near) == team.wide or len(far) == team.tall:
                continue
            found = behind(team, room)
            places = [place for place in range(team.wide) if place not in heads(near)]
            for beyond in draw.rooms(found.wide):
                lifted = [[row[places.index(j)] if j in places else 0 for j in range(team.wide)] for row in beyond]
                self.assertEqual(loss(team, joined(near, lifted)), loss(team, room) + loss(found, beyond))

    def test_within(self):
        seen = 0
        for draw, team, room, near, far in self.drawn(37):
            if len(near) == 0 or len(far) == 0:
                self.fails(NothingLeft, {}, within, team, room)
                continue
            seen += 1
            found = self.told(within, team, room)
            self.assertEqual(within(room=tupled(room), team=team), found)
            self.assertEqual(within(team, near), found)
            self.assertEqual((found.many, found.tall, found.wide), (team.many, len(far), len(near)))
            for at in range(team.many):
                mixture = draw.row(len(near))
                there = product([does(found, at, mixture)], far)
                self.assertEqual(there, [does(team, at, product([mixture], near)[0])])
            for lesser in draw.rooms(len(near))[1:]:
                self.assertEqual(loss(found, lesser), loss(team, product(lesser, near)))
        self.assertGreater(seen, 30)

    def test_told_ones(self):
        # The step (0, 1, 1) is led to (6, 3), told (1, 1/2). Places 0 and 2 are left, and the far place 1.
        # Place 0 is led to (0, 1), place 2 to (4, 3), less four times (1, 1/2): (0, 1).
        team = Team([[[0, 2, 4], [1, 0, 3]]])
        self.assertEqual(behind(team, [[0, 1, 1]]).tables(), [ratios([[1, 1]])])
        self.assertEqual(behind(sign_team(), [[1, 0, 0]]).tables(), [ratios([[1, 0]]), ratios([[0, 1]]), ratios([[0, 0]])])
        self.assertEqual(within(sign_team(), [[1, 0, 0]]).tables(), [ratios([[-1], [0]]), ratios([[0], [-1]]),
                                                                     ratios([[0], [0]])])
        self.assertEqual(behind(NARROW, []), NARROW)
        self.assertEqual(within(sign_team(), unit(3)), sign_team())
        self.assertEqual(within(NARROW, unit(2)).tables(), [ratios([[1, 0]]), ratios([[0, 1]])])

    def test_wrong_values(self):
        for function in (behind, within):
            for value in NO_TEAMS:
                self.fails_value(InvalidTeam, value, function, value, None)
            for value in no_rooms(3):
                self.fails_value(InvalidRoom, value, function, sign_team(), value)
                self.fails_value(InvalidRoom, value, function, room=value, team=sign_team())
        self.fails(NothingLeft, {}, behind, sign_team(), unit(3))
        self.fails(NothingLeft, {}, behind, Team([[[1]], [[0]]]), [[1]])
        self.fails(NothingLeft, {}, behind, Team([[[1, 0, 0], [0, 1, 0]]]), [[1, 0, 0], [0, 1, 0]])
        self.fails(NothingLeft, {}, within, sign_team(), [])
        self.fails(NothingLeft, {}, within, NARROW, [])
        self.fails(NothingLeft, {}, within, Team([[[0, 0, 0]]]), [[1, 1, 1]])


class Patterns(Case):
    def test_patterns(self):
        draw = Draw(38)
        for _ in range(40):
            tall, wide = draw.count(1, 4), draw.count(1, 4)
            every = [(i, j) for i in range(tall) for j in range(wide)]
            places = sorted(draw.random.sample(every, draw.count(1, len(every))))
            found = self.told(pattern_team, tall, wide, places)
            self.assertEqual((found.many, found.tall, found.wide), (len(places), tall, wide))
            for table, spot in zip(found.tables(), places):
                self.assertEqual(table, ratios([[int((i, j) == spot) for j in range(wide)] for i in range(tall)]))
            self.assertEqual(pattern_team(places=tuple(places), wide=wide, tall=tall), found)

    def test_sides(self):
        for value in NO_COUNTS + [0, 5, 10 ** 29]:
            self.fails_value(InvalidMany, value, pattern_team, value, 2, [(0, 0)])
            self.fails_value(InvalidMany, value, pattern_team, value, 9, None)
            self.fails_value(InvalidMany, value, pattern_team, 2, value, [(0, 0)])
            self.fails_value(InvalidMany, value, pattern_team, 2, value, None)
        self.assertEqual(pattern_team(4, 4, [(i, j) for i in range(4) for j in range(4)]).many, 16)
        self.assertEqual(pattern_team(1, 1, [(0, 0)]), Team([[[1]]]))
        self.assertEqual(pattern_team(4, 1, [(3, 0)]), Team([[[0], [0], [0], [1]]]))
        self.assertEqual(pattern_team(1, 4, [(0, 3)]), Team([[[0, 0, 0, 1]]]))

    def test_places(self):
        for value in NO_LISTS + [[], (), [(0, 0), (0, 0)], [(0, 1), (0, 0)], [(1, 0), (0, 1)], [[0, 0]], [(0, 0), [0, 1]],
                                 [(0, 2)], [(3, 0)], [(0, 0), (1, 1), (3, 1)], [(0,)], [(0, 0, 0)], [(0, True)],
                                 [(False, 1)], [(-1, 0)], [(0, -1)], [(Ratio(0), 0)], [(0, Ratio(1))], [("0", 0)],
                                 [(0, 0), None], [0, 0], (0, 0), [(0, 0), (1, 0), (0, 1)], {(0, 0)}, {(0, 0): 1}, "00",
                                 [(0, 10 ** 29)], [(0, 0), (0, 1), (0, 1)]]:
            self.fails_value(InvalidPlaces, value, pattern_team, 3, 2, value)
            self.fails_value(InvalidPlaces, value, pattern_team, places=value, wide=2, tall=3)
        seventeen = [(i, j) for i in range(4) for j in range(4)] + [(4, 0)]
        self.fails_value(InvalidPlaces, seventeen, pattern_team, 4, 4, seventeen)


class Pairs(Case):
    def test_pairs(self):
        draw = Draw(39)
        for many in (1, 2, 3, 16):
            for tall in (1, 3, 4):
                for wide in (1, 2, 4):
                    fars, nears = draw.rows(many, tall), draw.rows(many, wide)
                    found = self.told(pairs_team, fars, nears)
                    self.assertEqual((found.many, found.tall, found.wide), (many, tall, wide))
                    for table, far, near in zip(found.tables(), fars, nears):
                        self.assertEqual(table, product([[number] for number in far], [near]))
                    self.assertEqual(pairs_team(nears=tupled(nears), fars=tupled(fars)), found)

    def test_wrong_values(self):
        wrong = NO_TABLES + [[], (), [[1] * 5], [[1]] * 17, [[1, 2], [1]], [[1], [True]]]
        for value in wrong:
            self.fails_value(InvalidLists, value, pairs_team, value, [[1]])
            self.fails_value(InvalidLists, value, pairs_team, value, None)
            self.fails_value(InvalidLists, value, pairs_team, [[1]], value)
            self.fails_value(InvalidLists, value, pairs_team, nears=value, fars=[[1, 2]])
        self.fails(UnlikeMany, {}, pairs_team, [[1]], [[1], [2]])
        self.fails(UnlikeMany, {}, pairs_team, [[1]] * 16, [[1]] * 15)


class Signs(Case):
    def test_sign_team(self):
        found = self.told(sign_team)
        self.assertEqual((found.many, found.tall, found.wide), (3, 3, 3))
        self.assertEqual(found.tables(), [ratios([[0, 1, 0], [-1, 0, 0], [0, 0, 0]]),
                                          ratios([[0, 0, 1], [0, 0, 0], [-1, 0, 0]]),
                                          ratios([[0, 0, 0], [0, 0, 1], [0, -1, 0]])])
        self.assertEqual(upright(found), remixed(found, [[-1, 0, 0], [0, -1, 0], [0, 0, -1]]))

    def test_no_room_is_made_smaller(self):
        draw = Draw(40)
        for _ in range(20):
            for size, wanted in ((0, 0), (1, 2), (2, 3), (3, 3)):
                self.assertEqual(len(made(sign_team(), draw.room(3, size))), wanted)


class Facts(Case):
    def test_upright_and_level_rooms(self):
        # What is made of the level room of what is made of a room lies in the level room of that room.
        draw = Draw(41)
        for team in teams():
            for room in draw.rooms(team.wide):
                beyond = level(made(team, room), team.tall)
                self.assertTrue(makes(level(room, team.wide), made(upright(team), beyond)))

    def test_remixed_by_undone_numbers_makes_the_same(self):
        draw = Draw(42)
        for team in teams():
            if team.many > 6:
                continue
            found = remixed(team, draw.room(team.many, team.many))
            for room in draw.rooms(team.wide):
                self.assertEqual(made(found, room), made(team, room))

    def test_a_further_table_makes_no_less(self):
        draw = Draw(43)
        for team in teams():
            if team.many == 16:
                continue
            table = draw.rows(team.tall, team.wide)
            more = with_table(team, table)
            for room in draw.rooms(team.wide):
                self.assertTrue(makes(made(more, room), made(team, room)))
                self.assertLessEqual(loss(team, room) - loss(more, room), reference_rank(table))


if __name__ == "__main__":
    unittest.main()
