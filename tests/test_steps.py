"""Grids: steps, ranks, what grids make together and in common, level rooms."""

import unittest

from shrunkrooms.errors import InvalidGrid, InvalidList, InvalidMany, UnlikeWidths
from shrunkrooms.ratios import Ratio
from shrunkrooms.steps import holds, is_grid, joined, level, rank, shared, steps
from shrunkrooms.wholes import PRIME
from tests.tools import (NO_COUNTS, NO_LISTS, NO_TABLES, Case, Draw, about, makes, product, ratios, reference_rank,
                         reference_steps, tupled, unit)

NO_GRIDS = NO_TABLES + [[[1] * 65], [[1]] * 65, [[1, 2]] * 66, [[0] * 64, [0] * 65], [[1] * 64] * 65]
NO_GRIDS = [value for value in NO_GRIDS if value not in ([], ())]

ODD_GRIDS = [
    [],
    [[0]],
    [[0, 0, 0]],
    [[0, 0], [0, 0], [0, 0]],
    [[3]],
    [[0, 0, 5]],
    [[0, 0, 0, 2], [0, 3, 0, 1], [0, 0, 0, 0], [0, 3, 0, 3]],
    [[1, 2, 3], [2, 4, 6], [-1, -2, -3]],
    [[1, 2], [3, 4], [5, 6], [7, 9]],
    [[Ratio(1, 2), 1, 0], [1, 2, Ratio(0)], [0, 0, Ratio(-3, 7)]],
    [[0, 1], [1, 0]],
    [[1], [2], [0]],
    [[Ratio(999999, 999998), Ratio(1, 999999)], [999999, -999998]],
]


def drawn_grids():
    draw = Draw(5)
    found = list(ODD_GRIDS)
    for _ in range(60):
        tall, wide = draw.count(1, 6), draw.count(1, 6)
        found += [draw.rows(tall, wide), draw.sparse(tall, wide), draw.made_rows(tall, wide, draw.count(0, 3))]
    return found


def drawn_pairs():
    draw = Draw(6)
    found = [([], []), ([], [[1, 2]]), ([[0, 0]], []), ([[1, 0]], [[0, 1]]), ([[1, 1]], [[2, 2]])]
    for _ in range(60):
        wide = draw.count(1, 6)
        first = draw.made_rows(draw.count(1, 5), wide, draw.count(0, 4))
        found.append((first, draw.rows(draw.count(1, 4), wide)))
        found.append((first, first[:1] + draw.sparse(draw.count(1, 3), wide)))
        found.append((draw.sparse(3, wide), draw.sparse(2, wide)))
    return found


class IsGrid(Case):
    def test_grids(self):
        for value in ODD_GRIDS + [[[1] * 64] * 64, [[Ratio(1, 3)] * 64], [[1]] * 64]:
            self.assertIs(self.told(is_grid, value), True)
            self.assertIs(is_grid(tupled(value)), True)
            self.assertIs(is_grid(value=value), True)
        self.assertIs(is_grid(()), True)
        self.assertIs(is_grid([(1, 2), [3, 4]]), True)

    def test_no_grids(self):
        for value in NO_GRIDS:
            self.assertIs(is_grid(value), False, value)
        endless = []
        endless.append(endless)
        self.assertIs(is_grid(endless), False)


class Steps(Case):
    def test_drawn_grids(self):
        for grid in drawn_grids():
            found = self.told(steps, grid)
            self.assertEqual(found, reference_steps(grid))
            self.assert_ratios(found)
            self.assertEqual(steps(grid=tupled(grid)), found)
            self.assertEqual(steps(ratios(grid)), found)

    def test_the_form_of_steps(self):
        for grid in drawn_grids():
            found = steps(grid)
            heads = [[number.sign != 0 for number in row].index(True) for row in found]
            self.assertEqual(heads, sorted(set(heads)))
            for at, head in enumerate(heads):
                self.assertEqual([row[head] for row in found], [Ratio(int(k == at)) for k in range(len(found))])
            self.assertTrue(makes(found, grid) and makes(grid, found))
            self.assertEqual(steps(found), found)

    def test_of_no_rows_and_of_noughts(self):
        self.assertEqual(steps([]), [])
        self.assertEqual(steps(()), [])
        self.assertEqual(steps([[0, 0], [Ratio(0), 0]]), [])

    def test_rank(self):
        for grid in drawn_grids():
            found = self.told(rank, grid)
            self.assert_count(found)
            self.assertEqual(found, reference_rank(grid))
            self.assertEqual(rank(grid=tupled(grid)), found)

    def test_the_most_rows_and_the_greatest_width(self):
        draw = Draw(7)
        full = [[draw.integer(9) for _ in range(64)] for _ in range(64)]
        self.assertEqual(self.told(steps, full), ratios(unit(64)))
        self.assertEqual(rank(full), 64)
        lesser = draw.made_rows(64, 64, 5)
        self.assertEqual(steps(lesser), reference_steps(lesser))
        self.assertEqual(rank(lesser), 5)
        mixed = [draw.row(64, 999999) for _ in range(9)] + [[0] * 64]
        self.assertEqual(steps(mixed), reference_steps(mixed))
        self.assertEqual(rank(mixed), 9)
        self.assertEqual(steps([[2] * 64] * 64), [[Ratio(1)] * 64])
        self.assertEqual(rank([[0] * 64] * 64), 0)

    def test_the_prime_is_one(self):
        # A witness of Lucas and Lehmer: 2 ** 61 - 1 is a prime as this row ends with 0.
        self.assertEqual(PRIME, 2 ** 61 - 1)
        number = 4
        for _ in range(61 - 2):
            number = (number * number - 2) % PRIME
        self.assertEqual(number, 0)

    def test_ranks_that_are_less_by_a_prime(self):
        prime = PRIME
        self.assertEqual(rank([[Ratio(prime), 1], [0, Ratio(prime)]]), 2)
        self.assertEqual(steps([[Ratio(prime), 1], [0, Ratio(prime)]]), ratios(unit(2)))
        self.assertEqual(rank([[1, 1], [1, prime + 1]]), 2)
        self.assertEqual(rank([[1, 1, 0], [1, prime + 1, 0]]), 2)
        self.assertEqual(steps([[1, 1], [1, prime + 1]]), ratios(unit(2)))

    def test_no_grids(self):
        for value in NO_GRIDS:
            self.fails_value(InvalidGrid, value, steps, value)
            self.fails_value(InvalidGrid, value, steps, grid=value)
            self.fails_value(InvalidGrid, value, rank, value)
            self.fails_value(InvalidGrid, value, rank, grid=value)


class Together(Case):
    def test_joined(self):
        for grid, other in drawn_pairs():
            found = self.told(joined, grid, other)
            self.assertEqual(found, reference_steps(grid + other))
            self.assert_ratios(found)
            self.assertEqual(joined(other=tupled(grid), grid=tupled(other)), found)

    def test_shared(self):
        for grid, other in drawn_pairs():
            found = self.told(shared, grid, other)
            self.assert_ratios(found)
            self.assertEqual(found, reference_steps(found))
            self.assertTrue(makes(grid, found) and makes(other, found))
            self.assertEqual(len(found), reference_rank(grid) + reference_rank(other) - reference_rank(grid + other))
            self.assertEqual(shared(other=tupled(grid), grid=tupled(other)), found)

    def test_joined_and_shared_with_no_rows_and_with_itself(self):
        for grid in drawn_grids():
            self.assertEqual(joined(grid, []), steps(grid))
            self.assertEqual(joined([], grid), steps(grid))
            self.assertEqual(joined(grid, grid), steps(grid))
            self.assertEqual(shared(grid, []), [])
            self.assertEqual(shared([], grid), [])
            self.assertEqual(shared(grid, grid), steps(grid))

    def test_together_more_rows_than_a_grid_has(self):
        first = [[int(j == i) for j in range(64)] for i in range(64)]
        second = [[int(j in (i, 63)) for j in range(64)] for i in range(64)]
        self.assertEqual(joined(first, second), ratios(first))
        self.assertEqual(shared(first, second), ratios(first))
        self.assertEqual(shared(first[:40], first[20:]), ratios(first[20:40]))
        self.assertEqual(joined(first[:40], first[20:]), ratios(first))

    def test_wrong_values(self):
        for value in NO_GRIDS:
            for function in (joined, shared):
                self.fails_value(InvalidGrid, value, function, value, [[1]])
                self.fails_value(InvalidGrid, value, function, [[1]], value)
                self.fails_value(InvalidGrid, value, function, [], value)
                self.fails_value(InvalidGrid, value, function, grid=value, other=[["x"]])
                self.fails_value(InvalidGrid, value, function, other=value, grid=[[1, 2]])

    def test_unlike_widths(self):
        for function in (joined, shared):
            self.fails(UnlikeWidths, {}, function, [[1]], [[1, 2]])
            self.fails(UnlikeWidths, {}, function, [[0, 0, 0]], [[0, 0]])
            self.fails(UnlikeWidths, {}, function, grid=((1, 2),), other=((1,), (2,)))


class Level(Case):
    def test_drawn_grids(self):
        for grid in drawn_grids():
            wide = len(grid[0]) if grid else 5
            found = self.told(level, grid, wide)
            self.assert_ratios(found)
            self.assertEqual(found, reference_steps(found))
            self.assertEqual(len(found), wide - reference_rank(grid))
            if grid and found:
                self.assertTrue(all(number.sign == 0 for row in product(grid, about(found)) for number in row))
            self.assertEqual(level(wide=wide, grid=tupled(grid)), found)
            self.assertEqual(level(found, wide), steps(grid))

    def test_without_rows_any_width(self):
        for wide in (1, 2, 7, 64):
            self.assertEqual(level([], wide), ratios(unit(wide)))
            self.assertEqual(level([[0] * wide], wide), ratios(unit(wide)))
            self.assertEqual(level(unit(wide), wide), [])

    def test_the_greatest_width(self):
        draw = Draw(8)
        grid = draw.made_rows(64, 64, 4)
        found = level(grid, 64)
        self.assertEqual(len(found), 60)
        self.assertEqual(found, reference_steps(found))
        self.assertEqual(level(found, 64), reference_steps(grid))

    def test_wrong_values(self):
        for value in NO_GRIDS:
            self.fails_value(InvalidGrid, value, level, value, 2)
            self.fails_value(InvalidGrid, value, level, value, 0)
        for value in NO_COUNTS + [0, 65, 10 ** 29]:
            self.fails_value(InvalidMany, value, level, [[1, 2]], value)
            self.fails_value(InvalidMany, value, level, [], value)
            self.fails_value(InvalidMany, value, level, wide=value, grid=[[1, 2]])
        for wide in (1, 3, 64):
            self.fails(UnlikeWidths, {}, level, [[1, 2]], wide)
            self.fails(UnlikeWidths, {}, level, wide=wide, grid=[[0, 0]])


class Holds(Case):
    def test_drawn_grids(self):
        draw = Draw(9)
        seen = []
        for grid in drawn_grids():
            wide = len(grid[0]) if grid else 3
            rows = [draw.row(wide), [0] * wide] + grid + draw.sparse(2, wide)
            if grid:
                rows += product(draw.rows(2, len(grid)), grid)
            for row in rows:
                found = self.told(holds, grid, row)
                self.assertIs(found, makes(grid, [row]))
                self.assertIs(holds(row=tuple(row), grid=tupled(grid)), found)
                seen.append(found)
        self.assertGreater(seen.count(True), 100)
        self.assertGreater(seen.count(False), 100)

    def test_without_rows_noughts_of_any_width(self):
        for wide in (1, 2, 64):
            self.assertIs(holds([], [0] * wide), True)
            self.assertIs(holds((), [Ratio(0)] * (wide - 1) + [1]), False)
            self.assertIs(holds([[0] * wide], [0] * wide), True)

    def test_the_greatest_width(self):
        grid = Draw(10).made_rows(64, 64, 6)
        self.assertIs(holds(grid, [sum(column[1:], column[0]) for column in about(grid)]), True)
        self.assertIs(holds(grid, [1] + [0] * 63), False)

    def test_wrong_values(self):
        for value in NO_GRIDS:
            self.fails_value(InvalidGrid, value, holds, value, [1])
            self.fails_value(InvalidGrid, value, holds, value, None)
        for value in NO_LISTS + [[1], [1, 2, 3], [1, True], [1, "2"], [[1, 2]], (1,)]:
            self.fails_value(InvalidList, value, holds, [[1, 2]], value)
            self.fails_value(InvalidList, value, holds, row=value, grid=[[1, 2]])
        for value in NO_LISTS + [[], (), [0] * 65]:
            self.fails_value(InvalidList, value, holds, [], value)


if __name__ == "__main__":
    unittest.main()
