"""Volumes of crossed sums, which stay in all letters of volume 1."""

from shrunkrooms.fair import is_piece_helpers
from shrunkrooms.helpers import crossed
from shrunkrooms.tables import determinant


def volume(table):
    """The determinant of a square table."""
    return determinant(table)


def stay(team, helpers):
    """The volume of the square crossed sum of a team and helpers."""
    return determinant(crossed(team, helpers))


def is_staying(team, value):
    """Whether the value is helpers of the team whose crossed sum is square, of a volume other than 0."""
    # Such helpers are just those by which an even team falls into pieces: a volume is 0 if nothing undoes the table.
    return is_piece_helpers(team, value)
