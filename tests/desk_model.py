"""A plain model of a desk for tests: all is done anew from the lines of the deeds, states are found anew each time."""

from shrunkrooms.blocks import block_sizes
from shrunkrooms.claims import is_claim, is_true
from shrunkrooms.errors import (InvalidClaim, InvalidHelpers, InvalidPlace, LabelTaken, NameTaken, NothingToRedo, NothingToUndo,
                                TooMany, UnknownLabel, UnknownName, UnlikeTeams)
from shrunkrooms.helpers import crossed_rank, is_helpers
from shrunkrooms.lacks import free_helpers, lack, loss_room
from shrunkrooms.makers import (behind, beside, in_letters, pairs_team, pattern_team, remixed, sign_team, upright, with_table,
                                within, without)
from shrunkrooms.most import greatest_room, least_room, three
from shrunkrooms.plain import plain_rank
from shrunkrooms.ratios import Ratio
from shrunkrooms.slopes import slopes
from shrunkrooms.steps import joined, shared
from shrunkrooms.teams import Team, loss, made, told_room

NEW = ("team pattern pairs signs upright without with beside letters remixed behind within room least greatest lossy joined "
       "shared helpers free").split()
OF_ROOMS = ("most", "less")


def number(word):
    top, _, bottom = word.partition("/")
    return Ratio(int(top), int(bottom or 1))


def a_list(word):
    return [number(part) for part in word.split(",")]


def a_table(word):
    return [a_list(part) for part in word.split(";")]


def kind_of(thing):
    if isinstance(thing, Team):
        return "team"
    rows = thing[1]
    return "helpers" if rows and isinstance(rows[0][0], list) else "room"


def listed(row):
    return ",".join(str(part) for part in row)


def tabled(table):
    return ";".join(listed(row) for row in table)


class Model:
    """What a desk is to answer; only commands that are such by their words are passed."""

    def __init__(self):
        self.lines, self.back, self.things, self.notes = [], [], {}, {}

    def kept(self, name, kind=None):
        if name not in self.things or (kind is not None and kind_of(self.things[name]) != kind):
            raise UnknownName(name)
        return self.things[name]

    def state(self, label):
        claim = self.claim(label)
        return "gone" if claim is None or not is_claim(claim) else "true" if is_true(claim) else "false"

    def claim(self, label):
        word, name, *counts = self.notes[label]
        kind = "room" if word in OF_ROOMS else "team"
        if name not in self.things or kind_of(self.things[name]) != kind:
            return None
        thing = self.things[name]
        return (word, *thing) if kind == "room" else (word, thing, *map(int, counts))

    def states(self):
        return {label: self.state(label) for label in self.notes}

    def do(self, line):
        word, *words = line.split(" ")
        if word in ("undo", "redo"):
            return self.undo() if word == "undo" else self.redo()
        told = self.tell(word, words)
        if told is not None:
            return told
        ahead = self.states()
        self.change(line)
        self.lines, self.back = self.lines + [line], []
        now = self.states()
        return ", ".join(f"{label} {now[label]}" for label in sorted(now) if ahead.get(label) != now[label]) or "-"

    def undo(self):
        if not self.lines:
            raise NothingToUndo()
        line = self.lines[-1]
        self.replay(self.lines[:-1])
        self.back.append(line)
        return line

    def redo(self):
        if not self.back:
            raise NothingToRedo()
        line = self.back.pop()
        self.replay(self.lines + [line])
        return line

    def replay(self, lines):
        self.lines, self.things, self.notes = [], {}, {}
        for line in lines:
            self.change(line)
            self.lines.append(line)

    def change(self, line):
        word, name, *words = line.split(" ")
        things, notes = dict(self.things), dict(self.notes)
        if word in NEW:
            if name in things:
                raise NameTaken(name)
            things[name] = self.make(word, words)
        elif word == "drop":
            self.kept(name)
            del things[name]
        elif word == "entry":
            things[name] = self.entry(self.kept(name, "team"), *words)
        elif word == "forget":
            if name not in notes:
                raise UnknownLabel(name)
            del notes[name]
        else:
            notes[name] = self.noted(name, words)
        if len(things) > 12:
            raise TooMany("names", 12)
        if len(notes) > 12:
            raise TooMany("labels", 12)
        if len(self.lines) >= 300:
            raise TooMany("deeds", 300)
        self.things, self.notes = things, notes

    def noted(self, label, words):
        if label in self.notes:
            raise LabelTaken(label)
        self.kept(words[1], "room" if words[0] in OF_ROOMS else "team")
        self.notes[label] = words
        claim = self.claim(label)
        del self.notes[label]
        if not is_claim(claim):
            raise InvalidClaim(claim)
        return words

    def entry(self, team, *words):
        spot = [int(word) for word in words[:3]]
        for at, many in zip(spot, (team.many, team.tall, team.wide)):
            if at >= many:
                raise InvalidPlace(at)
        tables = team.tables()
        tables[spot[0]][spot[1]][spot[2]] = number(words[3])
        return Team(tables)

    def make(self, word, words):
        if word == "team":
            return Team([a_table(part) for part in words])
        if word == "pattern":
            return pattern_team(int(words[0]), int(words[1]), [(int(part[0]), int(part[1])) for part in words[2:]])
        if word == "pairs":
            return pairs_team([a_list(part.split(":")[0]) for part in words], [a_list(part.split(":")[1]) for part in words])
        if word == "signs":
            return sign_team()
        if word in ("behind", "within"):
            return (behind if word == "behind" else within)(*self.kept(words[0], "room"))
        if word in ("joined", "shared"):
            (team, first), (other, last) = self.kept(words[0], "room"), self.kept(words[1], "room")
            if team != other:
                raise UnlikeTeams()
            return team, (joined if word == "joined" else shared)(first, last)
        team = self.kept(words[0], "team")
        if word == "beside":
            return beside(team, self.kept(words[1], "team"))
        return self.make_of(word, team, words[1:])

    def make_of(self, word, team, words):
        if word == "upright":
            return upright(team)
        if word == "without":
            return without(team, int(words[0]))
        if word == "with":
            return with_table(team, a_table(words[0]))
        if word == "letters":
            return in_letters(team, a_table(words[0]), a_table(words[1]))
        if word == "remixed":
            return remixed(team, [a_list(part) for part in words])
        if word == "room":
            return team, told_room(team, [a_list(part) for part in words])
        if word == "helpers":
            tables = [a_table(part) for part in words]
            if not is_helpers(team, tables):
                raise InvalidHelpers(tables)
            return team, tables
        if word == "free":
            return team, free_helpers(team)
        return team, {"least": least_room, "greatest": greatest_room, "lossy": loss_room}[word](team)

    def tell(self, word, words):
        """The answer to a command that tells something, None for others."""
        if word == "names":
            return " ".join(sorted(self.things)) or "-"
        if word == "states":
            return ", ".join(f"{label} {self.state(label)}" for label in sorted(self.notes)) or "-"
        if word in ("state", "claimed"):
            if words[0] not in self.notes:
                raise UnknownLabel(words[0])
            return self.state(words[0]) if word == "state" else " ".join(self.notes[words[0]])
        if word == "same":
            thing = self.kept(words[0])
            return "yes" if thing == self.kept(words[1], kind_of(thing)) else "no"
        if word in ("show", "size"):
            return self.show(self.kept(words[0])) if word == "show" else self.size(self.kept(words[0]))
        if word in ("loss", "made"):
            team, rows = self.kept(words[0], "room")
            return str(loss(team, rows)) if word == "loss" else " ".join(map(listed, made(team, rows))) or "-"
        if word == "rank":
            return str(crossed_rank(*self.kept(words[0], "helpers")))
        if word not in ("lack", "plain", "three", "blocks", "slopes"):
            return None
        team = self.kept(words[0], "team")
        if word in ("lack", "plain"):
            return str(lack(team) if word == "lack" else plain_rank(team))
        if word == "three":
            return " ".join(f"{far} {size}" for far, size in three(team))
        return " ".join(map(str, block_sizes(team))) if word == "blocks" else ", ".join(f"{m} {s}" for m, s in slopes(team))

    def show(self, thing):
        if isinstance(thing, Team):
            return " ".join(map(tabled, thing.tables()))
        return " ".join(map(tabled if kind_of(thing) == "helpers" else listed, thing[1])) or "-"

    def size(self, thing):
        if isinstance(thing, Team):
            return f"{thing.many} {thing.tall} {thing.wide}"
        rows = thing[1]
        return f"{len(rows[0])} {len(rows[0][0])}" if kind_of(thing) == "helpers" else str(len(rows))
