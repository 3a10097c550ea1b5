"""What an INTEGER and a COUNT are."""


def is_integer(value):
    """Whether the value is an integer; True and False are none."""
    return isinstance(value, int) and not isinstance(value, bool)


def is_count(value):
    """Whether the value is an integer of at least 0."""
    return is_integer(value) and value >= 0
