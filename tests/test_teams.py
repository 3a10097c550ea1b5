"""Teams and rooms: what is one, what tables do, what is made, what leads where."""

import unittest

from shrunkrooms.errors import InvalidList, InvalidPlace, InvalidRoom, InvalidTables, InvalidTeam
from shrunkrooms.makers import sign_team
from shrunkrooms.ratios import Ratio
from shrunkrooms.steps import joined, level, shared, steps
from shrunkrooms.teams import Team, before, does, is_room, loss, made, told_room
from tests.drawn_teams import NO_TEAMS, teams
from tests.tools import (NO_COUNTS, NO_LISTS, NO_TABLES, Case, Draw, about, makes, product, ratios, reference_level,
                         reference_steps, tupled, unit)

NARROW = Team([[[1, 0], [0, 0]], [[0, 1], [0, 0]]])

NO_TEAM_TABLES = [value for value in NO_TABLES if value != [[[1]]]] + [
    [], (), [[[1]]] * 17, [[]], [[[]]], [[[1]], [[1, 2]]], [[[1]], [[1], [1]]], [[[1, 2], [3]]], [[[1], []]],
    [[[1] * 5]], [[[1]] * 5], [[[1, 2], [3, 4]], [[1, 2], [3]]], [[[1]], []], [[[1]], None], [[[1]], 1], [[[1]], [1]],
    [[[True]]], [[[1, False]]], [[["1"]]], [[[None]]], [[[[1]]]], [[[1], "1"]], [[[1, 2], (3, "4")]], [{0: [1]}],
    {0: [[1]]}, NARROW, [NARROW], [[[1]], [[1]], [[Ratio]]], [[[1, 2], [3, 4]], [[1, 2]]], [[[1, 2]], [[1, 2], [3, 4]]]]
# Here a table is one dimension too few.
NO_TEAM_TABLES += [[[1]], [[1, 2], [3, 4]]]


def no_rooms(wide):
    """Values that are no rooms of a team of this width, more than 1."""
    return [value for value in NO_TABLES if value not in ([], ())] + [
        [[0] * wide], [[1] * (wide + 1)], [[1] * (wide - 1)], [[1] * wide, [2] * wide], unit(wide) + [[1] * wide],
        [[1] * wide, [0] * wide], [[1] * wide] * 65, [[Ratio(1, 2)] * wide, [1] * wide], unit(wide + 1)]


class MakingTeams(Case):
    def test_parts(self):
        team = Team([[[1, 2, 3], [4, 5, Ratio(1, 2)]]])
        self.assertEqual((team.many, team.tall, team.wide), (1, 2, 3))
        self.assertEqual(self.told(team.tables), ratios_of([[[1, 2, 3], [4, 5, Ratio(1, 2)]]]))
        draw = Draw(20)
        for many in (1, 2, 15, 16):
            for tall in (1, 2, 3, 4):
                for wide in (1, 2, 3, 4):
                    tables = [draw.rows(tall, wide) for _ in range(many)]
                    team = Team(tables=tables)
                    self.assertEqual((team.many, team.tall, team.wide), (many, tall, wide))
                    for number in (team.many, team.tall, team.wide):
                        self.assert_count(number)
                    self.assertEqual(team.tables(), ratios_of(tables))
                    for table in team.tables():
                        self.assert_ratios(table)
                    self.assertEqual(Team(tupled(tables)), team)
                    self.assertEqual(Team(team.tables()), team)

    def test_what_is_no_teams_tables(self):
        for value in NO_TEAM_TABLES:
            self.fails_value(InvalidTables, value, Team, value)
            self.fails_value(InvalidTables, value, Team, tables=value)

    def test_it_copies_and_never_changes(self):
        row = [1, 2]
        table = [row, [3, 4]]
        tables = [table]
        team = Team(tables)
        row[0] = 9
        table.append([5, 6])
        tables.append(table)
        self.assertEqual(team, Team([[[1, 2], [3, 4]]]))
        told = team.tables()
        told[0][0][0] = Ratio(7)
        told[0].append([])
        told.clear()
        self.assertEqual(team, Team([[[1, 2], [3, 4]]]))
        self.assertEqual((team.many, team.tall, team.wide), (1, 2, 2))
        for name in ("many", "tall", "wide"):
            with self.assertRaises(AttributeError):
                setattr(team, name, 3)

    def test_equality(self):
        first, last = [[1, 0], [0, 2]], [[0, 1], [0, 0]]
        self.assertIs(Team([first, last]) == Team([ratios(first), tupled(last)]), True)
        self.assertIs(Team([first, last]) != Team([first, last]), False)
        for other in ([last, first], [first], [first, last, last], [first, first], [[[1, 0]], [[0, 1]]],
                      [[[1, 0], [0, 3]], last]):
            self.assertIs(Team([first, last]) == Team(other), False)
            self.assertIs(Team([first, last]) != Team(other), True)
        for value in NO_TEAMS + [[first, last], ratios_of([first, last])]:
            self.assertIs(Team([first, last]) == value, False)
            self.assertIs(value == Team([first, last]), False)

    def test_repr(self):
        self.assertEqual(repr(Team([[[1]]])), "Team([[[Ratio(1, 1)]]])")
        self.assertEqual(repr(Team((((1, Ratio(1, 2)), (0, -3)), ((1, 1), (1, 1))))),
                         "Team([[[Ratio(1, 1), Ratio(1, 2)], [Ratio(0, 1), Ratio(-3, 1)]], "
                         "[[Ratio(1, 1), Ratio(1, 1)], [Ratio(1, 1), Ratio(1, 1)]]])")


class Rooms(Case):
    def test_rooms(self):
        draw = Draw(21)
        for team in teams():
            for room in draw.rooms(team.wide):
                self.assertIs(self.told(is_room, team, room), True)
                self.assertIs(is_room(value=tupled(room), team=team), True)
                found = self.told(told_room, team, room)
                self.assertEqual(found, reference_steps(room))
                self.assert_ratios(found)
                self.assertEqual(told_room(room=tupled(room), team=team), found)

    def test_nothing_and_all(self):
        self.assertIs(is_room(sign_team(), []), True)
        self.assertIs(is_room(sign_team(), ()), True)
        self.assertEqual(told_room(sign_team(), ()), [])
        self.assertEqual(told_room(sign_team(), [[1, 2, 3], [0, 1, 4], [5, 6, 0]]), ratios(unit(3)))

    def test_no_rooms(self):
        for team in (NARROW, sign_team(), Team([[[1, 2, 3, 4]]])):
            for value in no_rooms(team.wide):
                self.assertIs(is_room(team, value), False, value)
                for function in (told_room, made, loss):
                    self.fails_value(InvalidRoom, value, function, team, value)
                    self.fails_value(InvalidRoom, value, function, room=value, team=team)

    def test_no_team(self):
        for value in NO_TEAMS:
            for function in (is_room, told_room, made, loss, before):
                self.fails_value(InvalidTeam, value, function, value, [])
                self.fails_value(InvalidTeam, value, function, value, "no room")
            self.fails_value(InvalidTeam, value, does, value, 0, [1])
            self.fails_value(InvalidTeam, value, does, mixture=None, place=-1, team=value)


class Does(Case):
    def test_drawn_teams(self):
        draw = Draw(22)
        for team in teams():
            for place in range(team.many):
                mixture = draw.row(team.wide)
                found = self.told(does, team, place, mixture)
                self.assertEqual([[number] for number in found],
                                 product(team.tables()[place], [[number] for number in mixture]))
                self.assert_ratios([found])
                self.assertEqual(does(mixture=tuple(mixture), place=place, team=team), found)

    def test_wrong_values(self):
        for value in NO_COUNTS + [2, 3, 10 ** 29]:
            self.fails_value(InvalidPlace, value, does, NARROW, value, [1, 2])
            self.fails_value(InvalidPlace, value, does, NARROW, value, None)
            self.fails_value(InvalidPlace, value, does, mixture=[1], place=value, team=NARROW)
        for value in NO_LISTS + [[], [1], (1,), [1, 2, 3], [1, True], [1, "2"], [None, 1]]:
            self.fails_value(InvalidList, value, does, NARROW, 1, value)
            self.fails_value(InvalidList, value, does, mixture=value, place=0, team=NARROW)


class Made(Case):
    def test_drawn_teams(self):
        draw = Draw(23)
        for team in teams():
            for room in draw.rooms(team.wide):
                images = [row for table in team.tables() for row in about(product(table, about(room)))] if room else []
                found = self.told(made, team, room)
                self.assertEqual(found, reference_steps(images))
                self.assert_ratios(found)
                self.assertEqual(made(room=tupled(room), team=team), found)
                lost = self.told(loss, team, room)
                self.assertIs(lost.__class__, int)
                self.assertEqual(lost, len(room) - len(found))
                self.assertEqual(loss(room=tupled(room), team=team), lost)

    def test_it_hangs_on_the_lists_alone(self):
        draw = Draw(24)
        for team in teams():
            for room in draw.rooms(team.wide)[1:]:
                others = product(draw.room(len(room), len(room)), room)
                self.assertEqual(made(team, others), made(team, room))
                self.assertEqual(made(team, told_room(team, room)), made(team, room))
                self.assertEqual(loss(team, others), loss(team, room))

    def test_losses(self):
        noughts = Team([[[0, 0, 0], [0, 0, 0]]])
        self.assertEqual([loss(noughts, unit(3)[:many]) for many in range(4)], [0, 1, 2, 3])
        many = Team([[[1], [0], [0], [0]], [[0], [1], [0], [0]], [[0], [0], [0], [1]]])
        self.assertEqual([loss(many, []), loss(many, [[5]])], [0, -2])
        self.assertEqual(made(many, [[5]]), ratios([[1, 0, 0, 0], [0, 1, 0, 0], [0, 0, 0, 1]]))
        wide = Team([[[1, 2, 3, 4]]])
        self.assertEqual([loss(wide, unit(4)), loss(wide, [[2, -1, 0, 0]]), loss(wide, [[1, 0, 0, 0]])], [3, 1, 0])
        self.assertEqual([loss(sign_team(), unit(3)[:many]) for many in range(4)], [0, -1, -1, 0])
        self.assertEqual([made(NARROW, []), made(NARROW, [[0, 3]])], [[], [[Ratio(1), Ratio(0)]]])
        pair = Team([[[1, 0, 0], [0, 1, 0], [0, 0, 0]], [[0, 1, 0], [0, 0, 0], [0, 0, 0]]])
        self.assertEqual([loss(pair, [[0, 0, 1]]), loss(pair, unit(3)), loss(pair, [[0, 1, 1]])], [1, 1, -1])


class Before(Case):
    def test_drawn_teams(self):
        draw = Draw(25)
        for team in teams():
            for far in draw.rooms(team.tall) + [made(team, room) for room in draw.rooms(team.wide)]:
                found = self.told(before, team, far)
                self.assert_ratios(found)
                self.assertEqual(found, reference_steps(found))
                self.assertTrue(makes(far, made(team, found)))
                self.assertEqual(before(far=tupled(far), team=team), found)
                self.assertEqual(found, reference_before(team, far))

    def test_a_room_lies_there_if_what_is_made_lies_in_the_far_room(self):
        draw = Draw(26)
        seen = []
        for team in teams():
            for far in draw.rooms(team.tall):
                for room in draw.rooms(team.wide) + [before(team, far)]:
                    within = makes(before(team, far), room)
                    self.assertIs(makes(far, made(team, room)), within)
                    seen.append(within)
        self.assertIn(True, seen)
        self.assertIn(False, seen)

    def test_nothing_and_all(self):
        for team in teams():
            self.assertEqual(before(team, unit(team.tall)), ratios(unit(team.wide)))
            for row in before(team, []):
                for place in range(team.many):
                    self.assertEqual(does(team, place, row), [Ratio(0)] * team.tall)
        self.assertEqual(before(Team([[[1, 1, 0]]]), ()), [[Ratio(1), Ratio(-1), Ratio(0)], [Ratio(0), Ratio(0), Ratio(1)]])
        self.assertEqual(before(sign_team(), [[1, 0, 0]]), [])
        self.assertEqual(before(sign_team(), [[1, 0, 0], [0, 1, 0]]), ratios([[0, 0, 1]]))

    def test_no_far_rooms(self):
        tall = Team([[[1], [2], [3]]])
        for value in no_rooms(3):
            self.fails_value(InvalidRoom, value, before, tall, value)
            self.fails_value(InvalidRoom, value, before, far=value, team=tall)
        self.assertEqual(before(tall, [[1, 2, 3]]), [[Ratio(1)]])


class Facts(Case):
    def test_swelling_of_what_is_made(self):
        draw = Draw(27)
        for team in teams():
            for room in draw.rooms(team.wide):
                for other in draw.rooms(team.wide):
                    both, common = joined(room, other), shared(room, other)
                    self.assertEqual(made(team, both), joined(made(team, room), made(team, other)))
                    self.assertTrue(makes(shared(made(team, room), made(team, other)), made(team, common)))
                    self.assertGreaterEqual(loss(team, both) + loss(team, common), loss(team, room) + loss(team, other))

    def test_before_and_level_rooms(self):
        draw = Draw(28)
        for team in teams():
            turned = Team([about(table) for table in team.tables()])
            for far in draw.rooms(team.tall):
                self.assertEqual(before(team, far), level(made(turned, level(far, team.tall)), team.wide))
                self.assertEqual(steps(far), told_room(turned, far))


def ratios_of(tables):
    return [ratios(table) for table in tables]


def reference_before(team, far):
    """All lists v with some w by which each table's image of v is a sum of multiples of the far room's lists."""
    wide, size = team.wide, len(far)
    equations = []
    for at, table in enumerate(team.tables()):
        for i in range(team.tall):
            row = list(table[i]) + [Ratio(0)] * (size * team.many)
            for k in range(size):
                row[wide + at * size + k] = -(Ratio(0) + far[k][i])
            equations.append(row)
    total = wide + size * team.many
    found = reference_level(equations, total)
    return reference_steps([row[:wide] for row in found])


if __name__ == "__main__":
    unittest.main()
