"""Claims about teams, each with its contrary, and papers that show which of both is true."""

from shrunkrooms.blocks import is_simple
from shrunkrooms.checks import is_between, is_list
from shrunkrooms.errors import InvalidClaim
from shrunkrooms.fading import fading, is_fading
from shrunkrooms.fair import MOST_QUOTIENT, fair_helpers, is_fair, is_fair_helpers, is_unfair_room, unfair_room
from shrunkrooms.lacks import free_helpers, is_free_helpers, is_full, is_loss_room, lack, loss_room
from shrunkrooms.lists import renewed, unit_rows
from shrunkrooms.most import is_most
from shrunkrooms.slopes import MOST_SLOPED
from shrunkrooms.staying import is_staying
from shrunkrooms.teams import Team, is_room, loss
from shrunkrooms.tight import MOST_TIGHT, tight_room

WORDS = (("lacks", "keeps"), ("full", "shrunk"), ("most", "less"), ("simple", "falls"), ("fair", "unfair"),
         ("fades", "lasts"))


def words():
    """For each line of claims its two words."""
    return list(WORDS)


def is_claim(value):
    """Whether the value is a claim, true or not."""
    if not isinstance(value, tuple) or len(value) < 2:
        return False
    word, team, *parts = value
    if not isinstance(word, str) or not isinstance(team, Team):
        return False
    return any([word in line and _are_parts(line[0], team, parts) for line in WORDS])


def is_true(claim):
    """Whether the claim is true."""
    _want_claim(claim)
    word, team, *parts = claim
    first, _ = _line_of(word)
    return _is_first_true(first, team, parts) == (word == first)


def contrary(claim):
    """The claim of the other word and the same parts."""
    _want_claim(claim)
    word, team, *parts = claim
    first, second = _line_of(word)
    return (second if word == first else first, team, *renewed(parts))


def paper_of(claim):
    """A paper that shows that the claim is true; None if it is not."""
    if not is_true(claim):
        return None
    word, team, *parts = claim
    if word in ("lacks", "shrunk", "less"):
        return loss_room(team)
    if word == "simple":
        return [[], unit_rows(team.wide)]
    if word == "falls":
        return loss_room(team) if lack(team) > 0 else tight_room(team)
    if word == "fair":
        return fair_helpers(team, parts[0], parts[1])
    if word == "unfair":
        return unfair_room(team, parts[0], parts[1])
    return fading(team) if word == "fades" else free_helpers(team)


def is_paper_of(claim, value):
    """Whether the value shows that the claim is true."""
    _want_claim(claim)
    word, team, *parts = claim
    if word == "fair":
        return is_fair_helpers(team, parts[0], parts[1], value)
    if word == "unfair":
        return is_unfair_room(team, parts[0], parts[1], value)
    if word == "fades":
        return is_fading(team, value)
    if word == "lasts":
        return is_staying(team, value)
    if word == "simple":
        return _are_ends(team, value) and is_simple(team)
    if word in ("keeps", "full", "most"):
        return is_free_helpers(team, _kept_rank(word, team, parts), value)
    return _is_lossy_room(word, team, parts, value)


def _want_claim(value):
    """Raises InvalidClaim unless the value is a claim."""
    if not is_claim(value):
        raise InvalidClaim(value)


def _line_of(word):
    """The two words of the line with this one."""
    return [line for line in WORDS if word in line][0]


def _are_parts(first, team, parts):
    """Whether claims of the line of this first word may tell this team and these further parts."""
    if first == "lacks":
        return len(parts) == 1 and is_between(parts[0], 1, team.wide)
    if first == "most":
        return len(parts) == 1 and is_room(team, parts[0])
    if first == "fair":
        few = team.tall <= MOST_SLOPED and team.wide <= MOST_SLOPED
        return few and len(parts) == 2 and all([is_between(part, 1, MOST_QUOTIENT) for part in parts])
    if first == "simple" and team.wide > MOST_TIGHT:
        return False
    return len(parts) == 0 and team.tall == team.wide


def _is_first_true(first, team, parts):
    """Whether the claim of the first word of a line is true."""
    if first == "lacks":
        return lack(team) >= parts[0]
    if first == "full":
        return is_full(team)
    if first == "most":
        return is_most(team, parts[0])
    if first == "simple":
        return is_simple(team)
    if first == "fair":
        return is_fair(team, parts[0], parts[1])
    return lack(team) > 0


def _kept_rank(word, team, parts):
    """The rank, divided by the helpers' sides, that shows that no room loses more."""
    if word == "keeps":
        return team.wide + 1 - parts[0]
    return team.wide - loss(team, parts[0]) if word == "most" else team.wide


def _is_lossy_room(word, team, parts, value):
    """Whether the value is a room that loses as much as the claim wants."""
    if word == "lacks":
        return is_loss_room(team, parts[0], value)
    if word == "shrunk":
        return is_loss_room(team, 1, value)
    if not is_room(team, value):
        return False
    if word == "less":
        return loss(team, value) > loss(team, parts[0])
    # What is left falls: all is a room of each team, so it wants a loss of its own.
    least = 1 if len(value) == team.wide else 0
    return len(value) > 0 and loss(team, value) >= least


def _are_ends(team, value):
    """Whether the value is a list of nothing and all."""
    if not is_list(value) or len(value) != 2 or not all([is_room(team, room) for room in value]):
        return False
    return len(value[0]) == 0 and len(value[1]) == team.wide
