"""Fractions in lowest terms, and what a NUMBER is."""

from math import gcd, lcm

from shrunkrooms.basics import is_integer
from shrunkrooms.errors import DividedByZero, InvalidNumber


class Ratio:
    """A fraction in lowest terms, its bottom at least 1; it never changes."""

    def __init__(self, top, bottom=1):
        if not is_integer(top):
            raise InvalidNumber(top)
        if not is_integer(bottom) or bottom == 0:
            raise InvalidNumber(bottom)
        common = gcd(top, bottom)
        if bottom < 0:
            common = -common
        self._top = top // common
        self._bottom = bottom // common

    @property
    def top(self):
        """The integer above the stroke."""
        return self._top

    @property
    def bottom(self):
        """The integer below the stroke, at least 1."""
        return self._bottom

    @property
    def sign(self):
        """-1, 0 or 1."""
        if self._top == 0:
            return 0
        return 1 if self._top > 0 else -1

    @property
    def is_whole(self):
        """Whether the bottom is 1."""
        return self._bottom == 1

    def __add__(self, other):
        top, bottom = _parts(other)
        return Ratio(self._top * bottom + top * self._bottom, self._bottom * bottom)

    def __radd__(self, other):
        return self + other

    def __sub__(self, other):
        top, bottom = _parts(other)
        return Ratio(self._top * bottom - top * self._bottom, self._bottom * bottom)

    def __rsub__(self, other):
        return -self + other

    def __mul__(self, other):
        top, bottom = _parts(other)
        return Ratio(self._top * top, self._bottom * bottom)

    def __rmul__(self, other):
        return self * other

    def __neg__(self):
        return Ratio(-self._top, self._bottom)

    def over(self, other):
        """This number divided by the other one."""
        top, bottom = _parts(other)
        if top == 0:
            raise DividedByZero()
        return Ratio(self._top * bottom, self._bottom * top)

    def unsigned(self):
        """This number without its sign."""
        return Ratio(abs(self._top), self._bottom)

    def is_below(self, other):
        """Whether this number is less than the other one."""
        top, bottom = _parts(other)
        return self._top * bottom < top * self._bottom

    def is_at_most(self, other):
        """Whether this number is not greater than the other one."""
        top, bottom = _parts(other)
        return self._top * bottom <= top * self._bottom

    def __eq__(self, other):
        return isinstance(other, Ratio) and self._top == other._top and self._bottom == other._bottom

    def __str__(self):
        if self._bottom == 1:
            return str(self._top)
        return f"{self._top}/{self._bottom}"

    def __repr__(self):
        return f"Ratio({self._top}, {self._bottom})"

    @classmethod
    def total(cls, numbers):
        """The sum of a list of NUMBERS."""
        if not isinstance(numbers, (list, tuple)):
            raise InvalidNumber(numbers)
        total_top, total_bottom = 0, 1
        for number in numbers:
            top, bottom = _parts(number)
            common = lcm(total_bottom, bottom)
            total_top = total_top * (common // total_bottom) + top * (common // bottom)
            total_bottom = common
        return cls(total_top, total_bottom)


def is_number(value):
    """Whether the value is an integer or a Ratio."""
    return isinstance(value, Ratio) or is_integer(value)


def as_ratio(number):
    """The Ratio of the worth of a NUMBER."""
    if isinstance(number, Ratio):
        return number
    return Ratio(number)


def _parts(value):
    """What stands above and below the stroke of a NUMBER."""
    if isinstance(value, Ratio):
        return value.top, value.bottom
    if not is_integer(value):
        raise InvalidNumber(value)
    return value, 1
