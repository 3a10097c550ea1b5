"""What several tests use: drawn values, a second way to reckon, and how a call is tried."""

import copy
import random
import unittest
from fractions import Fraction

from shrunkrooms.ratios import Ratio


class Stranger:
    """An object of a class that the package does not know."""


STRANGE = [None, True, False, "", "1", "[[1]]", b"", b"1", {}, {0: 1}, set(), {1, 2}, frozenset([1]), range(2),
           Stranger(), Stranger, len, iter([1]), Ellipsis, slice(1)]

# No numbers, whatever they look like.
NO_NUMBERS = STRANGE + [[], [1], (1,), [[1]], ()]

A_TABLE = [[1]]

# No lists of numbers; none of them is right at any length.
NO_LISTS = STRANGE + [1, 0, -1, Ratio(1), Ratio(1, 2), [True], [False, 1], ["1"], [None], A_TABLE, [()], [Stranger()],
                      (True,), {0: [1]}]

# No lists of lists of numbers, at any sides.
NO_TABLES = [value for value in NO_LISTS if value is not A_TABLE] + [
    [1], [1, 2], (1, 2), [[]], [[], []], [[1], []], [[1], [1, 2]], [[1, 2], [1]], [[True]], [[1], [False]], [["1"]],
    [[None]], [[[1]]], [[1], 1], [1, [1]], [[1], "1"], ["1"], ["12", "34"], [{0: 1}], [(1,), {1}], [range(2)],
    [[1, Stranger()]], [[1], None], [b"12"]]

NO_COUNTS = STRANGE + [-1, -10 ** 29, Ratio(1), Ratio(0), Ratio(1, 2), [], [1], (1,)]


class Draw:
    """Values that look drawn, the same ones in each run."""

    def __init__(self, seed):
        self.random = random.Random(seed)

    def count(self, low, high):
        return self.random.randint(low, high)

    def integer(self, most=4):
        return self.random.randint(-most, most)

    def number(self, most=4):
        if self.random.random() < 0.6:
            return self.integer(most)
        return Ratio(self.integer(most), self.random.choice([1, 2, 3, -5]))

    def row(self, wide, most=4):
        return [self.number(most) for _ in range(wide)]

    def rows(self, tall, wide, most=4):
        return [self.row(wide, most) for _ in range(tall)]

    def sparse(self, tall, wide):
        return [[self.random.choice([0, 0, 0, 1, 1, -1, 2]) for _ in range(wide)] for _ in range(tall)]

    def made_rows(self, tall, wide, size):
        """Rows that are made of so many."""
        if size == 0:
            return [[0] * wide for _ in range(tall)]
        return product(self.rows(tall, size, 2), self.rows(size, wide, 3))

    def room(self, wide, size):
        while True:
            rows = self.rows(size, wide)
            if reference_rank(rows) == size:
                return rows

    def rooms(self, wide):
        return [self.room(wide, size) for size in range(wide + 1)]


def fraction(number):
    if isinstance(number, Ratio):
        return Fraction(number.top, number.bottom)
    return Fraction(number)


def fractions(rows):
    return [[fraction(number) for number in row] for row in rows]


def ratios(rows):
    return [[Ratio(number.numerator, number.denominator) for number in row] for row in fractions(rows)]


def reference_steps(rows):
    """The steps, by plain elimination with Python's own fractions."""
    left = fractions(rows)
    done = []
    for place in range(len(left[0]) if left else 0):
        pick = next((row for row in left if row[place] != 0), None)
        if pick is None:
            continue
        left = [row for row in left if row is not pick]
        pick = [number / pick[place] for number in pick]
        left = [[a - row[place] * b for a, b in zip(row, pick)] for row in left]
        done = [[a - row[place] * b for a, b in zip(row, pick)] for row in done] + [pick]
    return ratios(done)


def reference_rank(rows):
    return len(reference_steps(rows))


def reference_level(rows, wide):
    """The lists whose products with each row add up to 0, one for each place that is no head."""
    told = reference_steps(rows)
    heads = [[number.sign != 0 for number in row].index(True) for row in told]
    found = []
    for free in [place for place in range(wide) if place not in heads]:
        row = [Ratio(int(place == free)) for place in range(wide)]
        for at, head in enumerate(heads):
            row[head] = -told[at][free]
        found.append(row)
    return found


def makes(rows, others):
    """Whether the others are made of the rows."""
    return reference_rank(list(rows) + list(others)) == reference_rank(rows)


def product(first, last):
    """The product of two tables, as Ratios."""
    one, two = fractions(first), fractions(last)
    return ratios([[sum(a * two[k][j] for k, a in enumerate(row)) for j in range(len(two[0]))] for row in one])


def about(rows):
    return [list(column) for column in zip(*rows)]


def unit(many):
    return [[int(i == j) for j in range(many)] for i in range(many)]


def tupled(value):
    """The value with tuples in the place of all lists."""
    if isinstance(value, list):
        return tuple(tupled(part) for part in value)
    return value


def other_kinds(value):
    """The same worth in other kinds: Ratios for integers and back, tuples for lists and back."""
    if isinstance(value, (list, tuple)):
        parts = [other_kinds(part) for part in value]
        return tuple(parts) if isinstance(value, list) else parts
    if isinstance(value, Ratio):
        return value.top if value.is_whole else value
    return Ratio(value)


def digits_in(value):
    """The most digits of a number within told lists."""
    if isinstance(value, (list, tuple)):
        return max([digits_in(part) for part in value] + [0])
    if isinstance(value, Ratio):
        return max(len(str(abs(value.top))), len(str(value.bottom)))
    return len(str(abs(value)))


def lists_in(value):
    """All lists and dicts within the value, itself among them."""
    found = [value] if isinstance(value, (list, dict)) else []
    if isinstance(value, (list, tuple)):
        for part in value:
            found += lists_in(part)
    return found


class Case(unittest.TestCase):
    """A test case that tries calls as the conventions want them."""

    def told(self, function, *given, **named):
        """What the call returns: equal when repeated, new each time, and what was passed stays as it was."""
        ahead = copy.deepcopy((given, named))
        first = function(*given, **named)
        again = function(*given, **named)
        self.assertEqual(first, again)
        self.assertEqual(repr(first), repr(again))
        self.assertEqual(repr((given, named)), repr(ahead))
        held = [id(part) for part in lists_in((again, given, tuple(named.values())))]
        for part in lists_in(first):
            self.assertNotIn(id(part), held)
        inner = [id(part) for part in lists_in(first)]
        self.assertEqual(len(inner), len(set(inner)))
        return first

    def fails(self, error, attributes, function, *given, **named):
        """The call raises just this error, with these very attributes, also when it is repeated."""
        for _ in range(2):
            with self.assertRaises(error) as held:
                function(*given, **named)
            self.assertIs(held.exception.__class__, error)
            self.assertEqual(sorted(vars(held.exception)), sorted(attributes))
            for name in attributes:
                self.assertIs(getattr(held.exception, name), attributes[name])

    def fails_value(self, error, value, function, *given, **named):
        self.fails(error, {"value": value}, function, *given, **named)

    def assert_ratios(self, value):
        """All numbers within lists of lists are Ratios."""
        for row in value:
            self.assertIsInstance(row, list)
            for number in row:
                self.assertIsInstance(number, Ratio)

    def assert_count(self, value):
        self.assertIs(value.__class__, int)
        self.assertGreaterEqual(value, 0)
