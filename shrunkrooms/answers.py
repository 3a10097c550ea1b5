"""What commands that are no deeds tell of things, as strings.

Each function of TELLERS serves the command of its word; it is given the things under the names behind the word.
"""

from shrunkrooms.blocks import block_sizes
from shrunkrooms.helpers import crossed_rank
from shrunkrooms.lacks import lack
from shrunkrooms.most import three
from shrunkrooms.plain import plain_rank
from shrunkrooms.slopes import slopes
from shrunkrooms.teams import loss, made
from shrunkrooms.things import are_same

NONE = "-"


def told_of(word, parts):
    """The answer to a command of this word about the things that are its parts."""
    teller = TELLERS[word]
    return teller(*parts)


def spaced(parts):
    """The parts with blanks between."""
    return " ".join([str(part) for part in parts]) if len(parts) > 0 else NONE


def listed(parts):
    """The parts, strings, with a comma and a blank between."""
    return ", ".join(parts) if len(parts) > 0 else NONE


def _list(row):
    """A LIST of these numbers."""
    return ",".join([str(number) for number in row])


def _table(table):
    """A TABLE of these rows."""
    return ";".join([_list(row) for row in table])


def _show(thing):
    if thing.kind == "team":
        return spaced([_table(table) for table in thing.team.tables()])
    return spaced([_list(row) if thing.kind == "room" else _table(row) for row in thing.rows])


def _size(thing):
    if thing.kind == "team":
        return spaced([thing.team.many, thing.team.tall, thing.team.wide])
    if thing.kind == "room":
        return str(len(thing.rows))
    return spaced([len(thing.rows[0]), len(thing.rows[0][0])])


def _lack(thing):
    return str(lack(thing.team))


def _plain(thing):
    return str(plain_rank(thing.team))


def _three(thing):
    return spaced([count for part in three(thing.team) for count in part])


def _loss(thing):
    return str(loss(thing.team, thing.rows))


def _made(thing):
    return spaced([_list(row) for row in made(thing.team, thing.rows)])


def _rank(thing):
    return str(crossed_rank(thing.team, thing.rows))


def _blocks(thing):
    return spaced(block_sizes(thing.team))


def _slopes(thing):
    return listed([f"{far} {size}" for far, size in slopes(thing.team)])


def _same(thing, other):
    return "yes" if are_same(thing, other) else "no"


TELLERS = {"show": _show, "size": _size, "lack": _lack, "plain": _plain, "three": _three, "loss": _loss, "made": _made,
           "rank": _rank, "blocks": _blocks, "slopes": _slopes, "same": _same}
