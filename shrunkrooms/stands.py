"""How things stand on a desk: what is kept under names, what is noted under labels, and the labels' states."""

from shrunkrooms.answers import listed, spaced
from shrunkrooms.claims import is_claim, is_true
from shrunkrooms.commands import wanted_kind
from shrunkrooms.errors import InvalidClaim, LabelTaken, NameTaken, TooMany, UnknownLabel, UnknownName
from shrunkrooms.lists import renewed

MOST_NAMES = 12
MOST_LABELS = 12
GONE = "gone"
# The commands that tell names and labels, not things.
NOTED = ("names", "states", "state", "claimed")


class Stand:
    """Things by their names, noted words by their labels, states by the same labels; it never changes."""

    def __init__(self, things, notes, states):
        self.things = things
        self.notes = notes
        self.states = states


def keeping(stand, name, thing):
    """The stand with this thing under the name, or with nothing under it where the thing is None."""
    things = {other: stand.things[other] for other in stand.things if other != name}
    if thing is not None:
        if len(things) == MOST_NAMES:
            raise TooMany("names", MOST_NAMES)
        things[name] = thing
    states = {label: _state(things, stand.notes[label]) if stand.notes[label][1] == name else stand.states[label]
              for label in stand.notes}
    return Stand(things, stand.notes, states)


def noting(stand, label, words):
    """The stand with a claim of these words, a tuple, noted under a label that is free."""
    claim = claim_now(stand, words)
    if not is_claim(claim):
        raise InvalidClaim(claim)
    if len(stand.notes) == MOST_LABELS:
        raise TooMany("labels", MOST_LABELS)
    states = {**stand.states, label: _state(stand.things, words)}
    return Stand(stand.things, {**stand.notes, label: words}, states)


def forgetting(stand, label):
    """The stand without the label."""
    notes = {other: stand.notes[other] for other in stand.notes if other != label}
    return Stand(stand.things, notes, {other: stand.states[other] for other in notes})


def claim_now(stand, words):
    """The claim of these words with what is kept now, or None while there is nothing of which it is one."""
    return _claim(stand.things, words)


def changes(old, new):
    """Which labels are of another state in the new stand than in the old one, with the state."""
    return listed([f"{label} {new.states[label]}" for label in sorted(new.states)
                   if label not in old.states or old.states[label] != new.states[label]])


def told_stand(stand, word, parts):
    """The answer to a command of one of the words of NOTED."""
    if word == "names":
        return spaced(sorted(stand.things))
    if word == "states":
        return listed([f"{label} {stand.states[label]}" for label in sorted(stand.states)])
    label = parts[0]
    return stand.states[label] if word == "state" else spaced(stand.notes[label])


def want_free(stand, kinds, parts):
    """Raises NameTaken, LabelTaken if a name or a label that is to be free is taken."""
    for kind, part in zip(kinds, parts):
        if kind == "new" and part in stand.things:
            raise NameTaken(part)
        if kind == "note" and part in stand.notes:
            raise LabelTaken(part)


def found_parts(stand, kinds, parts):
    """The parts with things in the place of their names; raises UnknownName, UnknownLabel with the first wrong one."""
    found = []
    for kind, part in zip(kinds, parts):
        if kind == "label" and part not in stand.notes:
            raise UnknownLabel(part)
        if kind in ("team", "room", "helpers"):
            found.append(_found(stand, part, kind))
        elif kind == "thing":
            found.append(_found(stand, part, None))
        elif kind == "like":
            found.append(_found(stand, part, found[-1].kind))
        else:
            found.append(part)
    return found


def _found(stand, name, kind):
    """The thing of this kind, of any where it is None, under the name."""
    thing = stand.things.get(name)
    if thing is None or (kind is not None and thing.kind != kind):
        raise UnknownName(name)
    return thing


def _claim(things, words):
    """The claim of these words, or a tuple that is none, with what is kept; None if nothing of its kind is."""
    word, name, *counts = words
    thing = things.get(name)
    if thing is None or thing.kind != wanted_kind(word):
        return None
    return (word, thing.team, renewed(thing.rows)) if thing.kind == "room" else (word, thing.team, *counts)


def _state(things, words):
    """The state of a claim of these words."""
    claim = _claim(things, words)
    if not is_claim(claim):
        return GONE
    return "true" if is_true(claim) else "false"
