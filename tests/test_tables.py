"""Tables reckoned: rank, determinant, what undoes them, products."""

import unittest
from fractions import Fraction
from itertools import permutations

from shrunkrooms.errors import InvalidTable, NotSquare, UnlikeWidths
from shrunkrooms.ratios import Ratio
from shrunkrooms.tables import determinant, is_table, table_rank, table_times, undone
from tests.tools import NO_TABLES, Case, Draw, about, fractions, product, ratios, reference_rank, tupled, unit

WRONG = NO_TABLES + [[], (), [[1]] * 97, [[1] * 97], [[1] * 96] * 97, [[1, 2], [3, 4], [5]]]


def tables():
    draw = Draw(50)
    found = [[[0]], [[5]], [[Ratio(-1, 3)]], [[1, 2, 3, 4, 5]], [[1], [0], [2]], [[0, 0], [0, 0]]]
    for _ in range(50):
        tall, wide = draw.count(1, 7), draw.count(1, 7)
        found += [draw.rows(tall, wide), draw.sparse(tall, wide), draw.made_rows(tall, wide, draw.count(0, 4))]
    return found


def square_tables():
    draw = Draw(51)
    found = [[[0]], [[5]], [[Ratio(-1, 3)]], [[0, 1], [1, 0]], [[0, 2, 0], [0, 0, 3], [5, 0, 0]], [[1, 2], [2, 4]]]
    for side in (1, 2, 3, 4, 5, 6):
        for _ in range(6):
            found += [draw.rows(side, side), draw.sparse(side, side), draw.made_rows(side, side, side - 1)]
    return found


def reference_determinant(rows):
    """The sum over all ways, as the definition tells."""
    table = fractions(rows)
    total = Fraction(0)
    for way in permutations(range(len(table))):
        part = Fraction(1)
        for row, place in enumerate(way):
            part *= table[row][place]
        wrong = sum(way[i] > way[j] for i in range(len(way)) for j in range(i + 1, len(way)))
        total += part if wrong % 2 == 0 else -part
    return Ratio(total.numerator, total.denominator)


class IsTable(Case):
    def test_tables(self):
        for value in tables() + [[[1] * 96] * 96, [[1]] * 96, [[1] * 96], [[Ratio(1, 2)] * 65] * 65]:
            self.assertIs(is_table(value), True)
            self.assertIs(is_table(value=tupled(value)), True)

    def test_no_tables(self):
        for value in WRONG:
            self.assertIs(is_table(value), False, value)

    def test_each_function_wants_a_table(self):
        for value in WRONG:
            for function in (table_rank, determinant, undone):
                self.fails_value(InvalidTable, value, function, value)
                self.fails_value(InvalidTable, value, function, table=value)
            self.fails_value(InvalidTable, value, table_times, value, [[1]])
            self.fails_value(InvalidTable, value, table_times, value, None)
            self.fails_value(InvalidTable, value, table_times, [[1]], value)
            self.fails_value(InvalidTable, value, table_times, other=value, table=[[1, 2]])


class Rank(Case):
    def test_drawn_tables(self):
        for table in tables():
            found = self.told(table_rank, table)
            self.assert_count(found)
            self.assertEqual(found, reference_rank(table))
            self.assertEqual(table_rank(table=tupled(table)), found)
            self.assertEqual(table_rank(about(table)), found)

    def test_great_tables(self):
        draw = Draw(52)
        self.assertEqual(table_rank(unit(96)), 96)
        self.assertEqual(table_rank([draw.row(96, 99) for _ in range(96)]), 96)
        self.assertEqual(table_rank([[draw.integer(99) for _ in range(96)] for _ in range(90)]), 90)
        self.assertEqual(table_rank(draw.made_rows(96, 96, 5)), 5)
        self.assertEqual(table_rank([[0] * 96] * 96), 0)
        self.assertEqual(table_rank([[0] * i + [1] * (96 - i) for i in range(95)] + [[0] * 95 + [7]]), 96)


class Determinant(Case):
    def test_drawn_tables(self):
        for table in square_tables():
            found = self.told(determinant, table)
            self.assertIs(found.__class__, Ratio)
            self.assertEqual(found, reference_determinant(table))
            self.assertEqual(determinant(table=tupled(table)), found)
            self.assertEqual(determinant(about(table)), found)

    def test_great_tables(self):
        draw = Draw(53)
        self.assertEqual(determinant(unit(96)), Ratio(1))
        self.assertEqual(determinant([row[1:] + row[:1] for row in unit(96)]), Ratio(-1))
        self.assertEqual(determinant([row[1:] + row[:1] for row in unit(95)]), Ratio(1))
        lower = [[draw.integer(3) if j < i else int(i == j) for j in range(40)] for i in range(40)]
        upper = [[draw.integer(3) if j > i else [2, 1, -1][i % 3] * int(i == j) for j in range(40)] for i in range(40)]
        self.assertEqual(determinant(product(lower, upper)), Ratio(-2 ** 14))
        halves = [[Ratio(int(i == j), 2) for j in range(96)] for i in range(96)]
        self.assertEqual(determinant(halves), Ratio(1, 2 ** 96))
        self.assertEqual(determinant(draw.made_rows(96, 96, 7)), Ratio(0))

    def test_of_products_and_of_what_undoes(self):
        found = square_tables()
        for first in found:
            for last in found:
                if len(first) == len(last) < 4:
                    self.assertEqual(determinant(product(first, last)), determinant(first) * determinant(last))
            back = undone(first)
            if back is not None:
                self.assertEqual(determinant(back), Ratio(1).over(determinant(first)))

    def test_not_square(self):
        for function in (determinant, undone):
            for table in ([[1, 2]], [[1], [2]], [[1] * 96] * 95, [[1] * 95] * 96, ((1, 2, 3), (4, 5, 6))):
                self.fails(NotSquare, {}, function, table)
                self.fails(NotSquare, {}, function, table=table)


class Undone(Case):
    def test_drawn_tables(self):
        seen = []
        for table in square_tables():
            found = self.told(undone, table)
            seen.append(found is None)
            self.assertIs(found is None, determinant(table) == Ratio(0))
            self.assertIs(found is None, table_rank(table) < len(table))
            if found is not None:
                self.assert_ratios(found)
                self.assertEqual(product(table, found), ratios(unit(len(table))))
                self.assertEqual(product(found, table), ratios(unit(len(table))))
                self.assertEqual(undone(found), ratios(table))
            self.assertEqual(undone(table=tupled(table)), found)
        self.assertIn(True, seen)
        self.assertIn(False, seen)

    def test_great_tables(self):
        draw = Draw(54)
        self.assertEqual(undone([[int(i >= j) for j in range(96)] for i in range(96)]),
                         ratios([[int(i == j) - int(i == j + 1) for j in range(96)] for i in range(96)]))
        self.assertIsNone(undone(draw.made_rows(96, 96, 5)))
        self.assertIsNone(undone([[int(i == j and i < 95) for j in range(96)] for i in range(96)]))
        table = [[draw.integer(9) for _ in range(30)] for _ in range(30)]
        self.assertEqual(product(table, undone(table)), ratios(unit(30)))


class Times(Case):
    def test_drawn_tables(self):
        draw = Draw(55)
        for table in tables():
            other = draw.rows(len(table[0]), draw.count(1, 6))
            found = self.told(table_times, table, other)
            self.assertEqual(found, product(table, other))
            self.assert_ratios(found)
            self.assertEqual(table_times(other=tupled(other), table=tupled(table)), found)
            self.assertLessEqual(table_rank(found), min(table_rank(table), table_rank(other)))
            self.assertEqual(table_times(unit(len(table)), table), ratios(table))

    def test_great_tables(self):
        draw = Draw(56)
        table = [[draw.integer(9) for _ in range(96)] for _ in range(96)]
        self.assertEqual(table_times(table, unit(96)), ratios(table))
        self.assertEqual(table_times([[1] * 96], [[2]] * 96), [[Ratio(192)]])
        self.assertEqual(table_times([[2]] * 96, [[1] * 96]), ratios([[2] * 96] * 96))

    def test_fractions_of_unlike_bottoms(self):
        self.assertEqual(table_times([[Ratio(1, 2), Ratio(1, 3), Ratio(1, 6)]], [[1], [1], [Ratio(6, 5)]]), [[Ratio(31, 30)]])
        self.assertEqual(table_times([[Ratio(1, 2), Ratio(-1, 3)]], [[Ratio(2, 3)], [1]]), [[Ratio(0)]])

    def test_unlike_widths(self):
        for table, other in [([[1, 2]], [[1]]), ([[1]], [[1], [2]]), ([[1, 2], [3, 4]], [[1, 2]]), ([[1]], [[1]] * 96)]:
            self.fails(UnlikeWidths, {}, table_times, table, other)
            self.fails(UnlikeWidths, {}, table_times, other=other, table=table)


if __name__ == "__main__":
    unittest.main()
