"""basics and ratios: which values are numbers, and the fractions themselves."""

import unittest
from fractions import Fraction
from math import gcd

from shrunkrooms.basics import is_count, is_integer
from shrunkrooms.errors import DividedByZero, InvalidNumber
from shrunkrooms.ratios import Ratio, is_number
from tests.tools import NO_NUMBERS, Case, Stranger, fraction

GREAT = 10 ** 29 + 7

INTEGERS = [0, 1, -1, 2, 3, 60, -60, 999999, -999999, GREAT, -GREAT]

NUMBERS = INTEGERS[:7] + [Ratio(0), Ratio(1), Ratio(-1), Ratio(1, 2), Ratio(-1, 2), Ratio(7, 3), Ratio(-999999, 1000),
                          Ratio(GREAT, 6), Ratio(2, GREAT)]


def same(number, wanted):
    """Whether a Ratio has this worth, in lowest terms."""
    return (number.__class__ is Ratio and (number.top, number.bottom) == (wanted.numerator, wanted.denominator)
            and number.top.__class__ is int and number.bottom.__class__ is int)


class Basics(Case):
    def test_integers(self):
        for value in INTEGERS:
            self.assertIs(is_integer(value), True)
            self.assertIs(is_integer(value=value), True)

    def test_no_integers(self):
        for value in NO_NUMBERS + [Ratio(1), Ratio(0), Ratio(1, 2)]:
            self.assertIs(is_integer(value), False)

    def test_counts(self):
        for value in INTEGERS:
            self.assertIs(is_count(value), value >= 0)
            self.assertIs(is_count(value=value), value >= 0)

    def test_no_counts(self):
        for value in NO_NUMBERS + [Ratio(1), Ratio(0), Ratio(5), Ratio(1, 2), -1]:
            self.assertIs(is_count(value), False)

    def test_numbers(self):
        for value in NUMBERS + INTEGERS:
            self.assertIs(is_number(value), True)
            self.assertIs(is_number(value=value), True)

    def test_no_numbers(self):
        for value in NO_NUMBERS + [Ratio, "Ratio(1, 2)", Fraction(1, 2), [Ratio(1)]]:
            self.assertIs(is_number(value), False)


class Making(Case):
    def test_lowest_terms_with_a_bottom_above_0(self):
        for top in INTEGERS + [6, -6, 10, 12 * GREAT]:
            for bottom in INTEGERS[1:] + [4, -6, 15, 8 * GREAT]:
                number = Ratio(top, bottom)
                self.assertTrue(same(number, Fraction(top, bottom)))
                self.assertGreaterEqual(number.bottom, 1)
                self.assertEqual(gcd(number.top, number.bottom), 1)
        self.assertEqual((Ratio(0, -7).top, Ratio(0, -7).bottom), (0, 1))

    def test_by_name_and_without_a_bottom(self):
        self.assertEqual(Ratio(top=4, bottom=-6), Ratio(-2, 3))
        self.assertEqual(Ratio(bottom=2, top=4), Ratio(2))
        self.assertEqual(Ratio(5), Ratio(5, 1))

    def test_parameters_that_are_no_integers(self):
        for value in NO_NUMBERS + [Ratio(1), Ratio(1, 2)]:
            self.fails_value(InvalidNumber, value, Ratio, value)
            self.fails_value(InvalidNumber, value, Ratio, top=value)
            self.fails_value(InvalidNumber, value, Ratio, value, 2)
            self.fails_value(InvalidNumber, value, Ratio, 2, value)
            self.fails_value(InvalidNumber, value, Ratio, top=2, bottom=value)
        self.fails_value(InvalidNumber, 0, Ratio, 1, 0)
        self.fails_value(InvalidNumber, 0, Ratio, 0, 0)

    def test_the_first_wrong_parameter_is_told(self):
        for value in NO_NUMBERS:
            self.fails_value(InvalidNumber, value, Ratio, value, 0)
            self.fails_value(InvalidNumber, value, Ratio, value, "other")

    def test_properties(self):
        for number, top, bottom, sign, whole in [(Ratio(3, -6), -1, 2, -1, False), (Ratio(0, 4), 0, 1, 0, True),
                                                 (Ratio(8, 4), 2, 1, 1, True), (Ratio(-9, 3), -3, 1, -1, True),
                                                 (Ratio(2, 4), 1, 2, 1, False)]:
            self.assertEqual((number.top, number.bottom, number.sign), (top, bottom, sign))
            self.assertIs(number.is_whole, whole)
            self.assertTrue(is_integer(number.sign))

    def test_it_can_not_be_changed(self):
        number = Ratio(1, 2)
        for name in ("top", "bottom", "sign", "is_whole"):
            with self.assertRaises(AttributeError):
                setattr(number, name, 3)

    def test_str_and_repr(self):
        for number, text, told in [(Ratio(7, 2), "7/2", "Ratio(7, 2)"), (Ratio(-7, 2), "-7/2", "Ratio(-7, 2)"),
                                   (Ratio(4, 2), "2", "Ratio(2, 1)"), (Ratio(0), "0", "Ratio(0, 1)"),
                                   (Ratio(-3), "-3", "Ratio(-3, 1)"), (Ratio(1, GREAT), f"1/{GREAT}", f"Ratio(1, {GREAT})")]:
            self.assertEqual(str(number), text)
            self.assertEqual(repr(number), told)


class Reckoning(Case):
    def test_numbers_on_the_right(self):
        for first in [number for number in NUMBERS if isinstance(number, Ratio)]:
            for last in NUMBERS:
                one, two = fraction(first), fraction(last)
                self.assertTrue(same(first + last, one + two))
                self.assertTrue(same(first - last, one - two))
                self.assertTrue(same(first * last, one * two))
                self.assertIs(first.is_below(last), one < two)
                self.assertIs(first.is_below(other=last), one < two)
                self.assertIs(first.is_at_most(last), one <= two)
                self.assertIs(first.is_at_most(other=last), one <= two)
                if two != 0:
                    self.assertTrue(same(first.over(last), one / two))
                    self.assertTrue(same(first.over(other=last), one / two))

    def test_integers_on_the_left(self):
        for first in INTEGERS:
            for last in [number for number in NUMBERS if isinstance(number, Ratio)]:
                self.assertTrue(same(first + last, first + fraction(last)))
                self.assertTrue(same(first - last, first - fraction(last)))
                self.assertTrue(same(first * last, first * fraction(last)))

    def test_minus_in_front_and_unsigned(self):
        for number in [number for number in NUMBERS if isinstance(number, Ratio)]:
            self.assertTrue(same(-number, -fraction(number)))
            self.assertTrue(same(number.unsigned(), abs(fraction(number))))

    def test_nothing_is_changed(self):
        first, last = Ratio(2, 3), Ratio(-5, 4)
        for _ in range(2):
            self.assertEqual([first + last, first - last, first * last, first.over(last), -first, last.unsigned(),
                              1 - first, Ratio.total([first, last])],
                             [Ratio(-7, 12), Ratio(23, 12), Ratio(-5, 6), Ratio(-8, 15), Ratio(-2, 3), Ratio(5, 4),
                              Ratio(1, 3), Ratio(-7, 12)])
        self.assertEqual((first, last), (Ratio(2, 3), Ratio(-5, 4)))

    def test_no_numbers_on_the_right(self):
        number = Ratio(3, 4)
        for value in NO_NUMBERS + [Fraction(1, 2)]:
            self.fails_value(InvalidNumber, value, lambda: number + value)
            self.fails_value(InvalidNumber, value, lambda: number - value)
            self.fails_value(InvalidNumber, value, lambda: number * value)
            self.fails_value(InvalidNumber, value, number.over, value)
            self.fails_value(InvalidNumber, value, number.is_below, value)
            self.fails_value(InvalidNumber, value, number.is_at_most, value)

    def test_divided_by_nought(self):
        for number in (Ratio(0), Ratio(1), Ratio(-1, 2)):
            self.fails(DividedByZero, {}, number.over, 0)
            self.fails(DividedByZero, {}, number.over, Ratio(0, 5))
        self.fails_value(InvalidNumber, False, Ratio(1).over, False)


class Equality(Case):
    def test_equal_ratios(self):
        self.assertIs(Ratio(2, 4) == Ratio(-1, -2), True)
        self.assertIs(Ratio(2, 4) != Ratio(-1, -2), False)
        self.assertIs(Ratio(0, 4) == Ratio(0), True)

    def test_unequal_ratios(self):
        for first, last in [((1, 2), (1, 3)), ((1, 2), (-1, 2)), ((2, 1), (3, 1)), ((1, 2), (1, 1)), ((2, 3), (1, 3))]:
            self.assertIs(Ratio(*first) == Ratio(*last), False)
            self.assertIs(Ratio(*first) != Ratio(*last), True)

    def test_with_ratios_alone_on_either_side(self):
        for value in NO_NUMBERS + [1, 0, -1, Fraction(1), "Ratio(1, 1)", [Ratio(1)]]:
            for number in (Ratio(1), Ratio(0)):
                self.assertIs(number == value, False)
                self.assertIs(value == number, False)
                self.assertIs(number != value, True)


class Total(Case):
    def test_lists_and_tuples(self):
        numbers = [1, Ratio(1, 2), Ratio(-1, 3), -4, Ratio(5, 6)]
        self.assertTrue(same(self.told(Ratio.total, numbers), Fraction(-2)))
        self.assertTrue(same(Ratio.total(tuple(numbers)), Fraction(-2)))
        self.assertTrue(same(Ratio.total(numbers=numbers[:3]), Fraction(7, 6)))
        self.assertTrue(same(Ratio.total(NUMBERS), sum(fraction(number) for number in NUMBERS)))
        self.assertTrue(same(Ratio.total([Ratio(1, 6), Ratio(1, 10)]), Fraction(4, 15)))

    def test_of_none_and_of_one(self):
        self.assertTrue(same(Ratio.total([]), Fraction(0)))
        self.assertTrue(same(Ratio.total(()), Fraction(0)))
        self.assertTrue(same(Ratio.total([3]), Fraction(3)))
        self.assertTrue(same(Ratio(5).total([Ratio(3, 6)]), Fraction(1, 2)))

    def test_no_lists(self):
        for value in [value for value in NO_NUMBERS if not isinstance(value, (list, tuple))] + [1, Ratio(1)]:
            self.fails_value(InvalidNumber, value, Ratio.total, value)
            self.fails_value(InvalidNumber, value, Ratio.total, numbers=value)

    def test_the_first_element_that_is_none(self):
        for value in NO_NUMBERS:
            self.fails_value(InvalidNumber, value, Ratio.total, [1, Ratio(1, 2), value, Stranger()])
            self.fails_value(InvalidNumber, value, Ratio.total, (value,))


if __name__ == "__main__":
    unittest.main()
