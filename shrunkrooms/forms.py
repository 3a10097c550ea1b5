"""Reading written forms, and telling the first line that is wrong."""

from shrunkrooms.checks import is_between
from shrunkrooms.errors import InvalidText
from shrunkrooms.helpers import MOST_SIDE
from shrunkrooms.numerals import read_count, read_number
from shrunkrooms.steps import MOST
from shrunkrooms.tables import MOST_ROWS
from shrunkrooms.teams import MOST_PLACES, MOST_TABLES, Team


def read(text):
    """The sort and the value that has this written form."""
    if not isinstance(text, str):
        raise InvalidText(0)
    # Behind the last line feed nothing may stand.
    *lines, rest = text.split("\n")
    head = _read_head(lines[0]) if len(lines) > 0 else None
    if head is None:
        raise InvalidText(1)
    sort, told = head
    found = []
    for line in lines[1:]:
        part = _read_line(sort, told, found, line)
        if part is None:
            raise InvalidText(len(found) + 2)
        found.append(part)
    if rest != "" or len(found) < _fewest(sort, told):
        raise InvalidText(len(lines) + 1)
    return sort, _value(sort, told, found)


def _read_head(line):
    """The sort that a first line tells, and what numbers stand there, or None."""
    sort, *words = line.split(" ")
    if sort == "team" or sort == "helpers":
        most = MOST_PLACES if sort == "team" else MOST_SIDE
        sides = [read_count(word) for word in words]
        if len(sides) != 3 or not is_between(sides[0], 1, MOST_TABLES):
            return None
        return (sort, sides) if all([is_between(side, 1, most) for side in sides[1:]]) else None
    if sort == "numbers":
        numbers = _read_numbers(words, 1, MOST)
        return None if numbers is None else (sort, numbers)
    return (sort, []) if sort in ("table", "grid", "places") and len(words) == 0 else None


def _read_line(sort, told, found, line):
    """What a further line tells behind those that were found, or None if it can't stand there."""
    word, *words = line.split(" ")
    if len(found) == _most(sort, told):
        return None
    if sort == "places":
        return _read_place(words, found) if word == "at" else None
    if word != "row":
        return None
    if sort == "team" or sort == "helpers":
        return _read_numbers(words, told[2], told[2])
    if len(found) > 0:
        return _read_numbers(words, len(found[0]), len(found[0]))
    return _read_numbers(words, 1, MOST_ROWS if sort == "table" else MOST)


def _read_numbers(words, low, high):
    """The numbers that low to high words tell, or None."""
    if not low <= len(words) <= high:
        return None
    numbers = [read_number(word) for word in words]
    return None if any([number is None for number in numbers]) else numbers


def _read_place(words, found):
    """The place behind those that were found, or None."""
    counts = [read_count(word) for word in words]
    if len(counts) != 2 or not all([is_between(count, 0, MOST - 1) for count in counts]):
        return None
    place = (counts[0], counts[1])
    return place if len(found) == 0 or found[-1] < place else None


def _fewest(sort, told):
    """How many lines must stand behind the first one."""
    if sort == "team" or sort == "helpers":
        return told[0] * told[1]
    return 1 if sort == "table" else 0


def _most(sort, told):
    """How many lines may stand behind the first one."""
    if sort == "grid" or sort == "places":
        return MOST
    return MOST_ROWS if sort == "table" else _fewest(sort, told)


def _value(sort, told, found):
    """The value of all lines."""
    if sort == "numbers":
        return told
    if sort != "team" and sort != "helpers":
        return found
    tables = [found[at:at + told[1]] for at in range(0, len(found), told[1])]
    return Team(tables) if sort == "team" else tables
