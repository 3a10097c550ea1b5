"""Most shrunk rooms: least and greatest ones, holding and within, swelling, the three parts."""

import unittest
from itertools import combinations
from itertools import product as ways

from shrunkrooms.errors import InvalidRoom, InvalidTeam
from shrunkrooms.lacks import free_rank, is_full, lack
from shrunkrooms.makers import behind, beside, in_letters, pattern_team, remixed, sign_team, upright, with_table, within
from shrunkrooms.most import greatest_room, greatest_within, is_most, least_room, least_with, swelling, three
from shrunkrooms.ratios import Ratio
from shrunkrooms.steps import joined, level, shared
from shrunkrooms.teams import Team, loss, made, told_room
from tests.drawn_teams import NO_TEAMS, in_drawn_letters, led_rooms, teams, teams_of_all_sides
from tests.test_teams import no_rooms
from tests.tools import Case, Draw, digits_in, makes, other_kinds, product, ratios, reference_steps, tupled, unit

NARROW = Team([[[1, 0, 0], [0, 0, 1]], [[0, 1, 0], [0, 0, 0]]])
ALL = teams() + teams_of_all_sides()


def lots(wide):
    return [lot for size in range(wide + 1) for lot in combinations(range(wide), size)]


def loss_of_lot(places, lot):
    return len(lot) - len({row for row, column in places if column in lot})


def best_lots(places, among):
    """Of these lots of columns those with the greatest loss, and the loss."""
    most = max(loss_of_lot(places, lot) for lot in among)
    return most, [set(lot) for lot in among if loss_of_lot(places, lot) == most]


def unit_room(wide, lot):
    return [unit(wide)[column] for column in sorted(lot)]


def drawn_boards(seed, many):
    draw = Draw(seed)
    for _ in range(many):
        tall, wide = draw.count(1, 4), draw.count(1, 4)
        spots = [(i, j) for i in range(tall) for j in range(wide)]
        often = draw.count(1, len(spots))
        yield draw, tall, wide, sorted(draw.random.sample(spots, often))


def small_rooms(wide):
    """Rooms by lists of small numbers, each once."""
    rows = [row for row in ways((0, 1, -1, 2), repeat=wide) if any(row)]
    if wide > 3:
        rows = [row for row in ways((0, 1, -1), repeat=wide) if any(row)]
    found = {repr([]): [], repr(ratios(unit(wide))): ratios(unit(wide))}
    for row in rows:
        for room in (reference_steps([row]), level([row], wide)):
            found[repr(room)] = room
    return list(found.values())


def small_teams(seed):
    """Teams of few places, in letters of small numbers, that have several most shrunk rooms."""
    draw = Draw(seed)
    found = [Team([unit(2)]), Team([unit(3)]), Team([[[1, 1], [0, 0]]]), Team([unit(3)[:1] + [[0] * 3] * 2])]
    for _, tall, wide, places in drawn_boards(seed, 40):
        if wide in (2, 3):
            low = [[int(i == j) + (i > j) * draw.integer(1) for j in range(wide)] for i in range(wide)]
            high = [[int(i == j) + (i < j) * draw.integer(1) for j in range(wide)] for i in range(wide)]
            found.append(in_letters(pattern_team(tall, wide, places), draw.room(tall, tall), product(low, high)))
    return found


class Boards(Case):
    def test_least_and_greatest_by_all_lots(self):
        for draw, tall, wide, places in drawn_boards(110, 60):
            most, best = best_lots(places, lots(wide))
            least, greatest = set.intersection(*best), set.union(*best)
            plain = pattern_team(tall, wide, places)
            for team, there in [(plain, unit(wide)), in_drawn_letters(draw, plain)]:
                self.assertEqual(lack(team), most)
                low, high = self.told(least_room, team), self.told(greatest_room, team)
                self.assertEqual(low, reference_steps(led_rooms(there, unit_room(wide, least))))
                self.assertEqual(high, reference_steps(led_rooms(there, unit_room(wide, greatest))))
                for lot in lots(wide):
                    room = led_rooms(there, unit_room(wide, lot))
                    self.assertIs(self.told(is_most, team, room), set(lot) in best)
                rows = [len({i for i, j in places if j in lot}) for lot in (least, greatest)]
                self.assertEqual(self.told(three, team),
                                 ((rows[0], len(least)), (rows[1] - rows[0], len(greatest) - len(least)),
                                  (tall - rows[1], wide - len(greatest))))

    def test_holding_and_within_by_all_lots(self):
        seen = []
        for draw, tall, wide, places in drawn_boards(111, 30):
            most, _ = best_lots(places, lots(wide))
            plain = pattern_team(tall, wide, places)
            team, there = in_drawn_letters(draw, plain)
            for lot in lots(wide):
                above = [other for other in lots(wide) if set(other) >= set(lot)]
                below = [other for other in lots(wide) if set(other) <= set(lot)]
                room = led_rooms(there, unit_room(wide, lot))
                for function, among, of_all in [(least_with, above, set.intersection), (greatest_within, below, set.union)]:
                    value, best = best_lots(places, among)
                    found = self.told(function, team, room)
                    seen.append(found is None)
                    if value < most:
                        self.assertIsNone(found)
                    else:
                        self.assertEqual(found, reference_steps(led_rooms(there, unit_room(wide, of_all(*best)))))
                        self.assert_ratios(found)
        self.assertIn(True, seen)
        self.assertIn(False, seen)


class LeastAndGreatest(Case):
    def test_drawn_teams(self):
        for team in ALL:
            low, high, most = self.told(least_room, team), self.told(greatest_room, team), lack(team)
            for room in (low, high):
                self.assertEqual(room, told_room(team, room))
                self.assert_ratios(room)
                self.assertEqual(loss(team, room), most)
                self.assertIs(is_most(team, room), True)
            self.assertTrue(makes(high, low))
            self.assertEqual(low == [], most == 0)
            self.assertEqual(len(high) == team.wide, loss(team, unit(team.wide)) == most)
            self.assertEqual(least_room(team=team), low)
            self.assertEqual(greatest_room(team=team), high)

    def test_among_rooms_of_small_numbers(self):
        held = {2: small_rooms(2), 3: small_rooms(3)}
        seen = 0
        for team in small_teams(119):
            low, high, most = least_room(team), greatest_room(team), lack(team)
            for room in held[team.wide]:
                told = loss(team, room)
                self.assertLessEqual(told, most)
                if told == most:
                    seen += room != low and room != high
                    self.assertTrue(makes(room, low))
                    self.assertTrue(makes(high, room))
        self.assertGreater(seen, 100)

    def test_within_the_least_one_each_room_loses_less(self):
        # So it is least: a most shrunk room within it is itself. Behind the greatest one each room loses less than 0.
        for team in ALL:
            low, high = least_room(team), greatest_room(team)
            if len(low) > 0 and len(made(team, low)) > 0:
                inner = within(team, low)
                self.assertEqual(least_room(inner), ratios(unit(len(low))))
                self.assertEqual(greatest_room(upright(inner)), [])
            if len(high) < team.wide and len(made(team, high)) < team.tall:
                beyond = behind(team, high)
                self.assertEqual((lack(beyond), greatest_room(beyond)), (0, []))

    def test_upright_and_level_rooms(self):
        for team in ALL:
            turned = upright(team)
            for room, other in [(least_room(team), greatest_room(turned)), (greatest_room(team), least_room(turned))]:
                there = level(made(team, room), team.tall)
                self.assertEqual(there, other)
                self.assertEqual(level(made(turned, there), team.wide), room)

    def test_letters_mixed_anew_and_beside(self):
        draw = Draw(112)
        for team in ALL[::2]:
            low, high = least_room(team), greatest_room(team)
            other, there = in_drawn_letters(draw, team)
            self.assertEqual(least_room(other), reference_steps(led_rooms(there, low)))
            self.assertEqual(greatest_room(other), reference_steps(led_rooms(there, high)))
            mixed_anew = remixed(team, draw.room(team.many, team.many))
            self.assertEqual((least_room(mixed_anew), greatest_room(mixed_anew)), (low, high))
            if team.tall <= 2 and team.wide <= 2:
                both = beside(team, team)
                for function, room in ((least_room, low), (greatest_room, high)):
                    noughts = [Ratio(0)] * team.wide
                    rows = [row + noughts for row in room] + [noughts + row for row in room]
                    self.assertEqual(function(both), rows)
            if team.many < 16:
                self.assertGreaterEqual(free_rank(with_table(team, draw.rows(team.tall, team.wide))), free_rank(team))

    def test_told_ones(self):
        self.assertEqual(least_room(sign_team()), [])
        self.assertEqual(greatest_room(sign_team()), ratios(unit(3)))
        self.assertEqual(least_room(NARROW), ratios([[1, 0, 0], [0, 1, 0]]))
        self.assertEqual(greatest_room(NARROW), ratios(unit(3)))
        none = Team([[[0, 0, 0]]])
        self.assertEqual((least_room(none), greatest_room(none)), (ratios(unit(3)), ratios(unit(3))))
        tall = Team([[[1], [0]], [[0], [1]]])
        self.assertEqual((least_room(tall), greatest_room(tall)), ([], []))

    def test_numbers_with_many_digits(self):
        draw = Draw(113)
        great = [[[Ratio(draw.integer(999999), draw.count(1, 999999)) for _ in range(4)] for _ in range(4)] for _ in range(16)]
        low = Team([[row[:2] + [Ratio(0)] * 2 if at >= 1 else row for at, row in enumerate(table)] for table in great])
        team, there = in_drawn_letters(draw, low)
        self.assertEqual(least_room(team), reference_steps(led_rooms(there, unit(4)[2:])))
        self.assertLess(digits_in(greatest_room(team)), 2000)
        self.assertEqual(greatest_room(team), least_room(team))

    def test_wrong_teams(self):
        for value in NO_TEAMS:
            for function in (least_room, greatest_room, three):
                self.fails_value(InvalidTeam, value, function, value)
                self.fails_value(InvalidTeam, value, function, team=value)
            for function in (is_most, least_with, greatest_within):
                self.fails_value(InvalidTeam, value, function, value, None)
                self.fails_value(InvalidTeam, value, function, room=[[0]], team=value)
            self.fails_value(InvalidTeam, value, swelling, value, None, None)

    def test_wrong_rooms(self):
        for value in no_rooms(3):
            for team in (NARROW, sign_team()):
                for function in (is_most, least_with, greatest_within):
                    self.fails_value(InvalidRoom, value, function, team, value)
                    self.fails_value(InvalidRoom, value, function, room=value, team=team)
                self.fails_value(InvalidRoom, value, swelling, team, value, None)
                self.fails_value(InvalidRoom, value, swelling, team, [[1, 0, 0]], value)
                self.fails_value(InvalidRoom, value, swelling, other=value, room=[], team=team)


class IsMost(Case):
    def test_rooms(self):
        draw = Draw(114)
        seen = []
        for team in ALL[::2]:
            for room in draw.rooms(team.wide):
                found = self.told(is_most, team, room)
                self.assertIs(found, loss(team, room) == lack(team))
                self.assertIs(is_most(room=other_kinds(room), team=team), found)
                seen.append(found)
        self.assertIn(True, seen)
        self.assertIn(False, seen)

    def test_nothing(self):
        for team in ALL:
            self.assertIs(is_most(team, []), lack(team) == 0)


class HoldingAndWithin(Case):
    def test_drawn_teams(self):
        draw = Draw(115)
        seen = []
        for team in ALL[::2]:
            low, high = least_room(team), greatest_room(team)
            rooms = draw.rooms(team.wide)
            if len(high) > len(low):
                rooms.append(low + [row for row in high if not makes(low, [row])][:1])
            rooms += [low, high, high[1:], joined(low, rooms[1])]
            for room in rooms:
                room = ratios(room)
                least, greatest = self.told(least_with, team, room), self.told(greatest_within, team, room)
                if least is not None:
                    self.assertEqual(loss(team, least), lack(team))
                    self.assertTrue(makes(least, room))
                    self.assertTrue(makes(least, low))
                    self.assertEqual(least, told_room(team, least))
                if greatest is not None:
                    self.assertEqual(loss(team, greatest), lack(team))
                    self.assertTrue(makes(room, greatest))
                    self.assertTrue(makes(high, greatest))
                    self.assertEqual(greatest, told_room(team, greatest))
                # A most shrunk room holds a room only if the greatest one does; the greatest of those is that one.
                self.assertEqual(least is not None, makes(high, room))
                self.assertEqual(greatest is not None, makes(room, low))
                self.assertEqual(least_with(room=other_kinds(room), team=team), least)
                self.assertEqual(greatest_within(room=tupled(room), team=team), greatest)
                seen.append((least is None, greatest is None))
        self.assertEqual(sorted(set(seen)), [(False, False), (False, True), (True, False), (True, True)])

    def test_among_rooms_of_small_numbers(self):
        held = {2: small_rooms(2), 3: small_rooms(3)}
        seen = 0
        for team in small_teams(120):
            most = [room for room in held[team.wide] if loss(team, room) == lack(team)]
            most = most if len(most) < 12 else most[::5]
            for room in held[team.wide][::9] + most[:8]:
                least, greatest = least_with(team, room), greatest_within(team, room)
                for other in most:
                    if makes(other, room):
                        seen += len(other) < team.wide
                        self.assertTrue(makes(other, least))
                    if makes(room, other):
                        self.assertTrue(makes(greatest, other))
        self.assertGreater(seen, 100)

    def test_ends(self):
        for team in ALL:
            low, high, every = least_room(team), greatest_room(team), ratios(unit(team.wide))
            self.assertEqual(least_with(team, []), low)
            self.assertEqual(greatest_within(team, every), high)
            self.assertEqual(least_with(team, every), every if is_most(team, every) else None)
            self.assertEqual(greatest_within(team, ()), [] if lack(team) == 0 else None)
            self.assertEqual(least_with(team, low), low)
            self.assertEqual(greatest_within(team, high), high)
            self.assertEqual(least_with(team, high), high)
            self.assertEqual(greatest_within(team, low), low)

    def test_whichever_rows_tell_the_room(self):
        draw = Draw(116)
        for team in ALL[::3]:
            for room in draw.rooms(team.wide)[1:] + [greatest_room(team)]:
                if len(room) > 0:
                    other = product(draw.room(len(room), len(room)), room)
                    for function in (is_most, least_with, greatest_within):
                        self.assertEqual(function(team, other), function(team, room))

    def test_of_noughts(self):
        none = Team([[[0, 0, 0]]])
        self.assertEqual(least_with(none, [[1, 2, 3]]), ratios(unit(3)))
        self.assertIsNone(greatest_within(none, [[1, 2, 3]]))
        # Nothing is made of the room, and it has the lack.
        half = Team([[[1, 0, 0], [0, 1, 0]]])
        self.assertEqual(greatest_within(half, [[0, 0, 5]]), ratios([[0, 0, 1]]))
        self.assertIsNone(greatest_within(half, [[1, 0, 0]]))


class Swelling(Case):
    def test_drawn_rooms(self):
        draw = Draw(117)
        for team in ALL[::3]:
            for room in draw.rooms(team.wide) + [least_room(team)]:
                for other in draw.rooms(team.wide) + [greatest_room(team)]:
                    found = self.told(swelling, team, room, other)
                    self.assertIs(found.__class__, tuple)
                    self.assertEqual([number.__class__ for number in found], [int] * 4)
                    self.assertEqual(found, (loss(team, room), loss(team, other), loss(team, joined(room, other)),
                                             loss(team, shared(room, other))))
                    self.assertGreaterEqual(found[2] + found[3], found[0] + found[1])
                    self.assertEqual(swelling(other=tupled(other), room=other_kinds(room), team=team), found)

    def test_most_shrunk_ones_stay_so(self):
        for team in ALL[::2]:
            low, high = least_room(team), greatest_room(team)
            for room in (low, high):
                for other in (low, high):
                    self.assertEqual(swelling(team, room, other), (lack(team),) * 4)

    def test_it_may_swell(self):
        # Two lists that are led to like far lists.
        team = Team([[[1, 1, 0], [0, 0, 1]]])
        self.assertEqual(swelling(team, [[1, 0, 0]], [[0, 1, 0]]), (0, 0, 1, 0))
        self.assertEqual(swelling(team, [], unit(3)), (0, 1, 1, 0))
        self.assertEqual(swelling(Team([[[1], [0]], [[0], [1]]]), [[1]], [[2]]), (-1, -1, -1, -1))


class Three(Case):
    def test_the_parts(self):
        seen = []
        for team in ALL:
            found = self.told(three, team)
            self.assertIs(found.__class__, tuple)
            for part in found:
                self.assertIs(part.__class__, tuple)
                for number in part:
                    self.assert_count(number)
            low, high = least_room(team), greatest_room(team)
            far_low, far_high = len(made(team, low)), len(made(team, high))
            self.assertEqual(found, ((far_low, len(low)), (far_high - far_low, len(high) - len(low)),
                                     (team.tall - far_high, team.wide - len(high))))
            first, second, third = found
            self.assertEqual(first[1] - first[0], lack(team))
            self.assertEqual(first[1] > 0, lack(team) > 0)
            self.assertEqual(second[0], second[1])
            self.assertGreaterEqual(third[0], third[1])
            self.assertEqual(free_rank(team), first[0] + second[1] + third[1])
            self.assertEqual((sum(part[0] for part in found), sum(part[1] for part in found)), (team.tall, team.wide))
            self.assertEqual(three(team=team), found)
            seen.append([part != (0, 0) for part in found])
        self.assertIn([True, True, True], seen)

    def test_the_second_part_is_full(self):
        seen = 0
        for team in ALL:
            low, high = least_room(team), greatest_room(team)
            if len(high) > len(low):
                there = within(team, high)
                heads = [[number.sign != 0 for number in row].index(True) for row in high]
                inner = [[row[head] for head in heads] for row in low]
                self.assertIs(is_full(behind(there, inner)), True)
                seen += 1
        self.assertGreater(seen, 10)

    def test_told_ones(self):
        pair = Team([[[1, 0, 0], [0, 0, 0], [0, 0, 1]], [[0, 1, 0], [0, 0, 0], [0, 0, 0]]])
        self.assertEqual(three(pair), ((1, 2), (1, 1), (1, 0)))
        self.assertEqual(three(sign_team()), ((0, 0), (3, 3), (0, 0)))
        self.assertEqual(three(Team([[[0] * 3] * 2])), ((0, 3), (0, 0), (2, 0)))
        self.assertEqual(three(Team([[[1], [0]], [[0], [1]]])), ((0, 0), (0, 0), (2, 1)))
        self.assertEqual(three(Team([[[1, 0]], [[0, 1]]])), ((1, 2), (0, 0), (0, 0)))
        # A list that is led to two far ones, one that is led to one, two that are led to one.
        every = pattern_team(4, 4, [(0, 0), (0, 1), (1, 2), (2, 3), (3, 3)])
        self.assertEqual(three(every), ((1, 2), (1, 1), (2, 1)))
        other, there = in_drawn_letters(Draw(118), every)
        self.assertEqual(three(other), ((1, 2), (1, 1), (2, 1)))


if __name__ == "__main__":
    unittest.main()
