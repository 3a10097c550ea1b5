"""Boards: rooks and covers."""

import unittest
from itertools import combinations

from shrunkrooms.boards import cover, is_cover, is_rooks, rooks
from shrunkrooms.errors import InvalidMany, InvalidPlaces
from shrunkrooms.lacks import free_rank, lack
from shrunkrooms.makers import pattern_team
from shrunkrooms.plain import mixture, plain_rank
from shrunkrooms.ratios import Ratio
from shrunkrooms.teams import loss
from tests.tools import NO_COUNTS, NO_LISTS, Case, Draw, reference_rank, tupled, unit

HOOK = [(0, 0), (0, 1), (0, 2), (1, 0), (2, 0)]

NO_PLACES = NO_LISTS + [
    [], (), [(0, 0), (0, 0)], [(0, 1), (0, 0)], [(1, 0), (0, 1)], [(0, 3)], [(3, 0)], [(0, 0), (0, 3)], [(0, -1)], [(-1, 0)],
    [[0, 0]], [(0, 0), [0, 1]], [(0,)], [(0, 0, 0)], [(0, 0), (0, True)], [(False, 0)], [(0, "0")], [(0, None)], [0, 1],
    [(0, Ratio(1))], [((0,), 0)], ["00"], [None], [()], {(0, 0): 1}, {(0, 0)}, (0, 0), ((0, 0), (0, 0))]


def drawn_boards(seed):
    draw = Draw(seed)
    for tall in (1, 2, 3, 4):
        for wide in (1, 2, 3, 4):
            spots = [(i, j) for i in range(tall) for j in range(wide)]
            yield tall, wide, spots
            yield tall, wide, [draw.random.choice(spots)]
            for _ in range(6):
                yield tall, wide, sorted(draw.random.sample(spots, draw.count(1, len(spots))))


def spare(lot):
    return len({row for row, _ in lot}) == len(lot) == len({column for _, column in lot})


def most_rooks(places):
    """How many rooks there are, by all lots."""
    return max(size for size in range(5) for lot in combinations(places, size) if spare(lot))


def all_lots(many):
    return [list(lot) for size in range(many + 1) for lot in combinations(range(many), size)]


class Boards(Case):
    def test_rooks(self):
        for tall, wide, places in drawn_boards(220):
            found = self.told(rooks, tall, wide, places)
            self.assertIs(found.__class__, list)
            self.assertEqual(found, sorted(found))
            self.assertTrue(spare(found))
            self.assertTrue(set(found) <= set(places))
            self.assertEqual(len(found), most_rooks(places))
            self.assertIs(self.told(is_rooks, tall, wide, places, found), True)
            self.assertIs(is_rooks(value=found[::-1], places=tuple(places), wide=wide, tall=tall), True)
            self.assertIs(is_rooks(tall, wide, places, tuple(found)), True)
            self.assertEqual(rooks(places=tuple(places), wide=wide, tall=tall), found)
            for place in found:
                self.assertIs(place.__class__, tuple)

    def test_covers(self):
        for tall, wide, places in drawn_boards(221):
            found = self.told(cover, tall, wide, places)
            self.assertIs(found.__class__, tuple)
            rows, columns = found
            for lot, side in ((rows, tall), (columns, wide)):
                self.assertIs(lot.__class__, list)
                self.assertEqual(lot, sorted(set(lot)))
                self.assertTrue(all(0 <= place < side for place in lot))
                for place in lot:
                    self.assert_count(place)
            self.assertTrue(all(row in rows or column in columns for row, column in places))
            self.assertEqual(len(rows) + len(columns), len(rooks(tall, wide, places)))
            self.assertIs(self.told(is_cover, tall, wide, places, found), True)
            self.assertIs(is_cover(value=(rows[::-1], columns[::-1]), places=tuple(places), wide=wide, tall=tall), True)
            self.assertIs(is_cover(tall, wide, places, tupled(found)), True)
            self.assertIs(is_cover(tall, wide, places, (tuple(rows[::-1]), columns)), True)
            self.assertEqual(cover(places=tuple(places), wide=wide, tall=tall), found)

    def test_all_lots_of_places_as_rooks(self):
        for tall, wide, places in drawn_boards(222):
            if len(places) <= 8:
                most = most_rooks(places)
                for size in range(min(len(places), 5) + 1):
                    for lot in combinations(places, size):
                        told = spare(lot) and size == most
                        self.assertIs(is_rooks(tall, wide, places, list(lot)), told)
                        self.assertIs(is_rooks(tall, wide, places, lot[::-1]), told)

    def test_all_lots_of_rows_and_columns_as_covers(self):
        for tall, wide, places in list(drawn_boards(223))[::3]:
            most = most_rooks(places)
            for rows in all_lots(tall):
                for columns in all_lots(wide):
                    told = (len(rows) + len(columns) == most
                            and all(row in rows or column in columns for row, column in places))
                    self.assertIs(is_cover(tall, wide, places, (rows, columns)), told)
                    self.assertIs(is_cover(tall, wide, places, (columns, rows)),
                                  len(rows) + len(columns) == most and set(columns) <= set(range(tall))
                                  and set(rows) <= set(range(wide))
                                  and all(row in columns or column in rows for row, column in places))

    def test_told_ones(self):
        self.assertEqual(len(rooks(3, 3, HOOK)), 2)
        self.assertEqual(cover(3, 3, HOOK), ([0], [0]))
        self.assertEqual(rooks(1, 1, [(0, 0)]), [(0, 0)])
        self.assertIn(cover(1, 1, [(0, 0)]), [([0], []), ([], [0])])
        self.assertEqual(rooks(4, 4, [(k, k) for k in range(4)]), [(k, k) for k in range(4)])
        self.assertEqual(rooks(3, 2, [(0, 0), (1, 0), (1, 1), (2, 1)][:1]), [(0, 0)])
        # Rooks that the first place of each row would miss.
        self.assertEqual(rooks(3, 3, [(0, 0), (0, 1), (1, 0), (2, 1), (2, 2)]), [(0, 1), (1, 0), (2, 2)])
        self.assertEqual(rooks(2, 2, [(0, 0), (0, 1), (1, 0)]), [(0, 1), (1, 0)])
        every = [(i, j) for i in range(4) for j in range(4)]
        self.assertIs(is_rooks(4, 4, every, [(0, 1), (1, 0), (2, 3), (3, 2)]), True)
        self.assertEqual(len(rooks(4, 4, every)), 4)
        self.assertEqual(cover(2, 4, [(0, j) for j in range(4)]), ([0], []))
        self.assertEqual(cover(4, 2, [(i, 1) for i in range(4)]), ([], [1]))


class AnyValue(Case):
    def test_no_rooks(self):
        self.assertIs(is_rooks(3, 3, HOOK, [(1, 0), (0, 1)]), True)
        wrong = [value for value in NO_PLACES if value != [(1, 0), (0, 1)]]
        for value in wrong + [[(0, 1)], [(0, 1), (0, 1)], [(0, 1), (1, 1)], [(0, 0), (1, 1)], [(0, 1), (2, 0), (1, 0)],
                              [[0, 1], [2, 0]], [(0, 1), (2, False)], [(0, True), (2, 0)], [(0, Ratio(1)), (2, 0)],
                              [(0, 1), (2, 0), None], [(0, 1), 2], [(0, 1, 0), (2, 0)], [(0, 2), (2, 0), ()], (0, 1),
                              [(0, 1), "20"], {(0, 1): 0, (2, 0): 0}, {(0, 1), (2, 0)}, [(0, 1), (1, 2)]]:
            self.assertIs(is_rooks(3, 3, HOOK, value), False, value)
        self.assertIs(is_rooks(3, 3, HOOK, ((2, 0), (0, 1))), True)

    def test_no_covers(self):
        for value in NO_PLACES + [([0], [0], []), [[0], [0]], ([0],), ([0], None), (None, [0]), ([0], [False]), ([False], [0]),
                                  ([0], [0, 0]), ([0, 0], []), ([0, 0], [0]), ([0], [1]), ([1], [0]), ([0], []), ([], [0]),
                                  ([0], [0, 1]), ([0, 1], [0]), ([-3], [0]), ([0], [-3]), ([0], [3]), ([3], [0]), ("0", "0"),
                                  ([Ratio(0)], [0]), ([0], ["0"]), ({0}, {0}), ({0: 0}, [0]), ([[0]], [0]), ((0), [0]),
                                  ([0], [0], None), ([None], [0]), ([0], 0), (0, [0])]:
            self.assertIs(is_cover(3, 3, HOOK, value), False, value)
        self.assertIs(is_cover(3, 3, HOOK, ((0,), (0,))), True)
        # As few as a cover, but of no rows of the board, or the same one twice.
        self.assertIs(is_cover(2, 2, [(0, 0), (1, 1)], ([0, 1], [])), True)
        self.assertIs(is_cover(2, 2, [(0, 0), (1, 1)], ([1, 0], [])), True)
        self.assertIs(is_cover(2, 2, [(0, 0)], ([0, 0], [])), False)
        self.assertIs(is_cover(2, 2, [(0, 0), (0, 1)], ([0, 2], [])), False)


class Errors(Case):
    def test_wrong_sides(self):
        for value in NO_COUNTS + [0, 5, 10 ** 29]:
            for function in (rooks, cover):
                self.fails_value(InvalidMany, value, function, value, None, None)
                self.fails_value(InvalidMany, value, function, 3, value, None)
                self.fails_value(InvalidMany, value, function, places=HOOK, wide=0, tall=value)
            for function in (is_rooks, is_cover):
                self.fails_value(InvalidMany, value, function, value, 0, [], None)
                self.fails(InvalidMany, {"value": value}, function, value=None, places=HOOK, wide=value, tall=3)

    def test_wrong_places(self):
        for value in NO_PLACES:
            for function in (rooks, cover):
                self.fails_value(InvalidPlaces, value, function, 3, 3, value)
                self.fails_value(InvalidPlaces, value, function, places=value, wide=3, tall=3)
            for function in (is_rooks, is_cover):
                self.fails_value(InvalidPlaces, value, function, 3, 3, value, None)
        self.fails_value(InvalidPlaces, HOOK, rooks, 2, 3, HOOK)
        self.fails_value(InvalidPlaces, HOOK, is_cover, 3, 2, HOOK, ([0], [0]))


class Facts(Case):
    def test_boards_as_teams(self):
        for tall, wide, places in list(drawn_boards(224))[::2]:
            team = pattern_team(tall, wide, places)
            told = rooks(tall, wide, places)
            self.assertEqual(free_rank(team), len(told))
            if len(places) <= 6:
                self.assertEqual(plain_rank(team), len(told))
            self.assertEqual(reference_rank(mixture(team, [int(place in told) for place in places])), len(told))
            _, columns = cover(tall, wide, places)
            room = [unit(wide)[column] for column in range(wide) if column not in columns]
            self.assertEqual(loss(team, room), lack(team))


if __name__ == "__main__":
    unittest.main()
