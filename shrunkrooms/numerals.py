"""Counts and numbers as they are written."""

from math import gcd

from shrunkrooms.ratios import Ratio

DIGITS = "0123456789"


def read_count(word):
    """The COUNT that the word tells, or None."""
    if word == "" or not all([sign in DIGITS for sign in word]):
        return None
    if word[0] == "0" and len(word) > 1:
        return None
    return int(word)


def read_number(word):
    """The Ratio that the word tells, or None."""
    above, stroke, below = word.partition("/")
    top = _read_integer(above)
    if stroke == "" or top is None:
        return None if top is None else Ratio(top)
    bottom = read_count(below)
    if bottom is None or bottom < 2 or gcd(top, bottom) != 1:
        return None
    return Ratio(top, bottom)


def _read_integer(word):
    """The INTEGER that the word tells, or None."""
    if not word.startswith("-"):
        return read_count(word)
    count = read_count(word[1:])
    # There is one way to write 0, and that is without a sign.
    return None if count is None or count == 0 else -count
