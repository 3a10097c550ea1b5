"""Whether values have the form that is wanted: lists of numbers, lists of such lists, bounds."""

from shrunkrooms.basics import is_count
from shrunkrooms.errors import InvalidMany
from shrunkrooms.ratios import is_number


def is_list(value):
    """Whether the value is a list, or a tuple in the place of one."""
    return isinstance(value, (list, tuple))


def is_between(value, low, high):
    """Whether the value is a COUNT from low to high."""
    return is_count(value) and low <= value <= high


def is_numbers(value, low, high):
    """Whether the value is a list of low to high NUMBERS."""
    return is_list(value) and low <= len(value) <= high and all([is_number(number) for number in value])


def are_lists(value, high, widest):
    """Whether the value is a list of 1 to high lists, alike long, of 1 to widest NUMBERS."""
    if not is_list(value) or not 1 <= len(value) <= high:
        return False
    if not all([is_numbers(row, 1, widest) for row in value]):
        return False
    return all([len(row) == len(value[0]) for row in value])


def are_lists_of(value, tall, wide):
    """Whether the value is a list of just so many lists of just so many NUMBERS."""
    return are_lists(value, tall, wide) and len(value) == tall and len(value[0]) == wide


def are_tables(value, low, high, most):
    """Whether the value is a list of low to high tables of the same sides, both from 1 to most."""
    if not is_list(value) or not low <= len(value) <= high:
        return False
    if not all([are_lists(table, most, most) for table in value]):
        return False
    return all([len(table) == len(value[0]) and len(table[0]) == len(value[0][0]) for table in value])


def is_place(value, tall, wide):
    """Whether the value is a tuple of two COUNTS below these sides."""
    if not isinstance(value, tuple) or len(value) != 2:
        return False
    return is_between(value[0], 0, tall - 1) and is_between(value[1], 0, wide - 1)


def are_places(value, tall, wide, low, high):
    """Whether the value is a rising list of low to high unlike tuples of two COUNTS below these sides."""
    if not is_list(value) or not low <= len(value) <= high:
        return False
    if not all([is_place(place, tall, wide) for place in value]):
        return False
    return all([place < later for place, later in zip(value, value[1:])])


def is_lot(value, many):
    """Whether the value is a list of unlike COUNTS below so many."""
    if not is_list(value) or not all([is_between(count, 0, many - 1) for count in value]):
        return False
    return len(set(value)) == len(value)


def want_count(value):
    """Raises InvalidMany unless the value is a COUNT."""
    if not is_count(value):
        raise InvalidMany(value)


def want_many(value, low, high):
    """Raises InvalidMany unless the value is a COUNT from low to high."""
    if not is_between(value, low, high):
        raise InvalidMany(value)
