"""Mixtures of a team, and the greatest rank that they have."""

from shrunkrooms.checks import is_numbers
from shrunkrooms.errors import InvalidNumbers, TooMany
from shrunkrooms.lists import as_row
from shrunkrooms.makers import mixed
from shrunkrooms.spans import span_rank
from shrunkrooms.teams import want_team

MOST_MIXED = 6


def mixture(team, numbers):
    """The sum of the team's tables, each times its number."""
    want_team(team)
    if not is_numbers(numbers, team.many, team.many):
        raise InvalidNumbers(numbers)
    return mixed(team.tables(), as_row(numbers))


def plain_rank(team):
    """The greatest rank of a mixture."""
    return span_rank(mixture(team, plain_paper(team)))


def plain_paper(team):
    """Numbers by which the mixture has the plain rank."""
    _want_few(team)
    tables = team.tables()
    for size in reversed(range(1, min(team.tall, team.wide) + 1)):
        # A minor of so many rows that is not nought as a sum of products of as many letters
        # is other than 0 at one of these numbers: they are enough for all such sums.
        for numbers in _parted(size, team.many):
            if span_rank(mixed(tables, as_row(numbers))) >= size:
                return as_row(numbers)
    return as_row([0] * team.many)


def is_plain_paper(team, value):
    """Whether the value is numbers by which the mixture has the plain rank."""
    _want_few(team)
    if not is_numbers(value, team.many, team.many):
        return False
    return span_rank(mixture(team, value)) == plain_rank(team)


def _parted(total, many):
    """All lists of so many COUNTS that add up to the total."""
    if many == 1:
        return [[total]]
    return [[first, *rest] for first in range(total + 1) for rest in _parted(total - first, many - 1)]


def _want_few(team):
    """Raises InvalidTeam unless the value is a Team, TooMany if it has too many tables."""
    want_team(team)
    if team.many > MOST_MIXED:
        raise TooMany("tables", MOST_MIXED)
