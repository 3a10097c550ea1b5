"""Pairs of lists: common lots and cut lots."""

import unittest
from itertools import combinations

from shrunkrooms.errors import InvalidLists, UnlikeMany
from shrunkrooms.lacks import free_rank, lack
from shrunkrooms.makers import pairs_team
from shrunkrooms.pairs import common_lot, cut_lot, is_common_lot, is_cut_lot
from shrunkrooms.plain import plain_rank
from shrunkrooms.ratios import Ratio
from shrunkrooms.steps import level
from shrunkrooms.teams import loss
from tests.tools import NO_COUNTS, NO_LISTS, NO_TABLES, Case, Draw, other_kinds, reference_rank, tupled, unit

FUNCTIONS = (common_lot, cut_lot)
JUDGES = (is_common_lot, is_cut_lot)
# Two of the fars are alike, and two of the nears: the common lots are (0, 2), (1, 2), (2, 3), (1, 3)
FARS, NEARS = [[1, 0], [1, 0], [0, 1], [0, 3]], [[1, 0, 0], [0, 1, 0], [0, 0, 1], [1, 0, 0]]


def linked(draw, many, wide):
    """So many lists: drawn ones, noughts, some twice, multiples and sums of others."""
    rows = []
    for _ in range(many):
        shape = draw.count(0, 6)
        if shape == 0:
            rows.append([0] * wide)
        elif shape == 1 and rows:
            rows.append(list(draw.random.choice(rows)))
        elif shape == 2 and rows:
            factor = draw.random.choice([2, -1, Ratio(1, 3)])
            rows.append([number * factor for number in draw.random.choice(rows)])
        elif shape == 3 and rows:
            first, last = draw.random.choice(rows), draw.random.choice(rows)
            rows.append([a + b for a, b in zip(first, last)])
        elif shape == 4:
            rows.append(draw.row(wide))
        else:
            rows.append(draw.sparse(1, wide)[0])
    return rows


def drawn_pairs(seed, most):
    draw = Draw(seed)
    for many in range(1, most + 1):
        for tall in (1, 2, 3, 4):
            for wide in (1, 2, 3, 4):
                yield linked(draw, many, tall), linked(draw, many, wide)


def rank_at(rows, lot):
    return reference_rank([rows[at] for at in lot])


def lots(many, most=None):
    return [lot for size in range((many if most is None else most) + 1) for lot in combinations(range(many), size)]


def most_common(fars, nears):
    """How many positions a common lot has, by all lots."""
    return max(len(lot) for lot in lots(len(fars), min(len(fars), 4))
               if rank_at(fars, lot) == len(lot) == rank_at(nears, lot))


def cut_sum(fars, nears, lot):
    return rank_at(fars, lot) + rank_at(nears, [at for at in range(len(fars)) if at not in lot])


class Lots(Case):
    def check(self, fars, nears):
        """Both lots of these pairs, which show one another to be best; how many positions the common one has."""
        for function, judge in zip(FUNCTIONS, JUDGES):
            found = self.told(function, fars, nears)
            self.assertIs(found.__class__, list)
            self.assertEqual(found, sorted(set(found)))
            for at in found:
                self.assert_count(at)
                self.assertLess(at, len(fars))
            self.assertEqual(function(nears=tupled(nears), fars=tupled(fars)), found)
            self.assertEqual(function(other_kinds(fars), other_kinds(nears)), found)
            self.assertIs(self.told(judge, fars, nears, found), True)
            self.assertIs(judge(value=tuple(found[::-1]), nears=other_kinds(nears), fars=tupled(fars)), True)
        lot, cut = common_lot(fars, nears), cut_lot(fars, nears)
        self.assertEqual((rank_at(fars, lot), rank_at(nears, lot)), (len(lot), len(lot)))
        self.assertEqual(cut_sum(fars, nears, cut), len(lot))
        return len(lot)

    def test_by_all_lots(self):
        seen = []
        draw = Draw(229)
        plain = [(draw.rows(many, 4), draw.rows(many, 4)) for many in (3, 4, 5, 6)]
        for fars, nears in list(drawn_pairs(230, 6)) + plain:
            many = self.check(fars, nears)
            self.assertEqual(many, most_common(fars, nears))
            self.assertEqual(many, min(cut_sum(fars, nears, lot) for lot in lots(len(fars))))
            seen.append(many)
        self.assertEqual(sorted(set(seen)), [0, 1, 2, 3, 4])

    def test_up_to_sixteen(self):
        for fars, nears in list(drawn_pairs(231, 16))[96:]:
            self.check(fars, nears)
        draw = Draw(232)
        for _ in range(2):
            fars, nears = linked(draw, 16, 4), linked(draw, 16, 4)
            self.assertEqual(self.check(fars, nears), most_common(fars, nears))

    def test_ways_that_exchange(self):
        # Whatever lot is begun with, several positions are to be exchanged for one more.
        draw = Draw(233)
        for _ in range(60):
            many = draw.count(4, 9)
            fars = [draw.random.choice(unit(4)) for _ in range(many)]
            nears = [draw.random.choice(unit(4)) for _ in range(many)]
            self.assertEqual(self.check(fars, nears), most_common(fars, nears))
        fars, nears = [unit(3)[k] for k in (0, 0, 1, 1, 2)], [unit(3)[k] for k in (0, 1, 1, 2, 2)]
        for way in range(5):
            self.assertEqual(self.check(fars[way:] + fars[:way], nears[way:] + nears[:way]), 3)

    def test_told_ones(self):
        self.assertEqual(common_lot([[0, 0]], [[1]]), [])
        self.assertEqual(cut_lot([[0, 0]], [[1]]), [0])
        self.assertEqual(cut_lot([[1]], [[0, 0]]), [])
        self.assertEqual(common_lot([[2]], [[Ratio(1, 3)]]), [0])
        self.assertEqual(common_lot(unit(4), unit(4)), [0, 1, 2, 3])
        self.assertEqual(common_lot([[0] * 4] * 16, [[0]] * 16), [])
        self.assertEqual(self.check([[1, 2]] * 16, [[k, 1, 0] for k in range(16)]), 1)
        self.assertEqual(cut_lot([[1, 2]] * 16, [[k, 1, 0] for k in range(16)]), list(range(16)))
        self.assertEqual(self.check([[1, k, k * k, k ** 3] for k in range(16)], [[1, k] for k in range(16)]), 2)
        self.assertEqual(cut_lot([[1, k, k * k, k ** 3] for k in range(16)], [[1, k] for k in range(16)]), [])
        self.assertEqual(self.check(FARS, NEARS), 2)

    def test_numbers_with_many_digits(self):
        draw = Draw(234)
        for _ in range(10):
            fars, nears = [[[Ratio(draw.integer(999999), draw.count(1, 999999)) for _ in range(4)] for _ in range(14)]
                           for _ in range(2)]
            fars += [[a + b for a, b in zip(fars[0], fars[1])], fars[2]]
            nears += [nears[3], nears[4]]
            self.assertEqual(self.check(fars, nears), 4)


class Judged(Case):
    def test_all_lots(self):
        for fars, nears in list(drawn_pairs(235, 5))[::2]:
            most = most_common(fars, nears)
            for lot in lots(len(fars)):
                common = rank_at(fars, lot) == len(lot) == rank_at(nears, lot) == most
                cut = cut_sum(fars, nears, lot) == most
                for value in (list(lot), lot, list(lot[::-1])):
                    self.assertIs(is_common_lot(fars, nears, value), common)
                    self.assertIs(is_cut_lot(fars, nears, value), cut)

    def test_one_position_more_or_less(self):
        for fars, nears in list(drawn_pairs(236, 8))[::5]:
            lot, others = common_lot(fars, nears), list(range(len(fars)))
            for at in lot:
                self.assertIs(is_common_lot(fars, nears, [other for other in lot if other != at]), False)
                self.assertIs(is_common_lot(fars, nears, lot + [at]), False)
            for at in others:
                self.assertIs(is_common_lot(fars, nears, lot + [at]), False)
            cut = cut_lot(fars, nears)
            for at in cut:
                self.assertIs(is_cut_lot(fars, nears, cut + [at]), False)
                rest = [other for other in cut if other != at]
                self.assertIs(is_cut_lot(fars, nears, rest), cut_sum(fars, nears, rest) == len(lot))
            for at in [at for at in others if at not in cut]:
                self.assertIs(is_cut_lot(fars, nears, cut + [at]), cut_sum(fars, nears, cut + [at]) == len(lot))

    def test_any_value(self):
        self.assertIs(is_common_lot(FARS, NEARS, [1, 3]), True)
        self.assertIs(is_common_lot(FARS, NEARS, (3, 1)), True)
        self.assertIs(is_cut_lot(FARS, NEARS, (3, 0, 1, 2)), True)
        wrong = [value for value in NO_LISTS if value is not None] + [None, [0, 3], [0, 0], [1, 3, 3], [1, 1, 3], [3, 1, 4],
                 [-1, 1], [1, -1], [-3, -1], [1, 4], [4, 1], [5, 6], [True, 3], [3, True], [1, False], [False, 2],
                 [Ratio(1), 3], [1, Ratio(3)], ["1", "3"], "13", b"\x01\x03", [1, 3, None], [None, 1, 3], [[1], [3]], [[1, 3]],
                 ((1, 3),), {1: 0, 3: 0}, {1, 3}, range(1, 3), [1, 3.0.__class__], [1, [3]], (1, (3,)), 1, 3, [10 ** 29, 1],
                 [2, 2, 1], [0, 1, 2, 3, 3], [0, 1, 2, 4], [0, True, 2, 3], [Ratio(0), 1, 2, 3], [0, 1, 2, 3, -1], [[0, 1, 2, 3]]]
        for value in wrong:
            for judge in JUDGES:
                self.assertIs(judge(FARS, NEARS, value), False, value)
                self.assertIs(judge(value=value, nears=NEARS, fars=FARS), False, value)
        for value in ([], (), [1], [3], [0, 1], [2, 3], [0, 1, 2], [0, 1, 2, 3]):
            self.assertIs(is_common_lot(FARS, NEARS, value), False, value)
        # Nothing is a lot where there are only noughts.
        for value in ([], ()):
            self.assertIs(is_common_lot([[0]] * 3, [[1]] * 3, value), True)
            self.assertIs(is_cut_lot([[1]] * 3, [[0]] * 3, value), True)
            self.assertIs(is_cut_lot([[0]] * 3, [[1]] * 3, value), False)
        self.assertIs(is_cut_lot([[0]] * 3, [[1]] * 3, [2, 0, 1]), True)


class Errors(Case):
    def test_wrong_lists(self):
        wrong = NO_TABLES + [[], (), [[1] * 5], [[1]] * 17, [[1, 2], [1]], [[1], [True]], [[1], [1, 2]], [[]]]
        for value in wrong:
            for function in FUNCTIONS:
                self.fails_value(InvalidLists, value, function, value, [[1]])
                self.fails_value(InvalidLists, value, function, value, None)
                self.fails_value(InvalidLists, value, function, [[1]], value)
                self.fails_value(InvalidLists, value, function, nears=value, fars=[[1], [2]])
            for judge in JUDGES:
                self.fails_value(InvalidLists, value, judge, value, [[1]], [0])
                self.fails_value(InvalidLists, value, judge, value, None, None)
                self.fails_value(InvalidLists, value, judge, [[1]], value, None)
                self.fails(InvalidLists, {"value": value}, judge, value=[0], nears=value, fars=[[1], [2]])
        for value in NO_COUNTS:
            self.fails_value(InvalidLists, value, common_lot, [[1], [2]], value)

    def test_unlike_many(self):
        for fars, nears in [([[1]], [[1], [2]]), ([[1]] * 16, [[1]] * 15), ([[1, 2, 3]] * 2, [[0]])]:
            for function in FUNCTIONS:
                self.fails(UnlikeMany, {}, function, fars, nears)
                self.fails(UnlikeMany, {}, function, nears=fars, fars=nears)
            for judge in JUDGES:
                self.fails(UnlikeMany, {}, judge, fars, nears, None)
                self.fails(UnlikeMany, {}, judge, value=[0], nears=nears, fars=fars)


class Facts(Case):
    def test_pairs_as_teams(self):
        for fars, nears in list(drawn_pairs(237, 6)) + list(drawn_pairs(238, 16))[100::7]:
            team, many = pairs_team(fars, nears), len(common_lot(fars, nears))
            self.assertEqual(free_rank(team), many)
            if team.many <= 6:
                self.assertEqual(plain_rank(team), many)
            cut = cut_lot(fars, nears)
            room = level([near for at, near in enumerate(nears) if at not in cut], team.wide)
            self.assertEqual(loss(team, room), lack(team))


if __name__ == "__main__":
    unittest.main()
