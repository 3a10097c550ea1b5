"""Helpers that show a room to be best, and the room."""

from shrunkrooms.scatter import scattered_tables
from shrunkrooms.wong import stayed


def best_helpers(team, tall, wide, most):
    """Helpers that stay, of the sides tall k and wide k, k from 1 to most, and the back room that shows it.

    Of all rooms this one has the greatest sum of wide times its size less tall times the size of what is made of it,
    and it is the least of these. There are such helpers of some k, and almost all helpers of this k are such: so the
    search ends.
    """
    start = 0
    while True:
        for times in range(1, most + 1):
            start += 1
            helpers = scattered_tables(team.many, tall * times, wide * times, start)
            room = stayed(team, helpers)
            if room is not None:
                return helpers, room
