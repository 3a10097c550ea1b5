"""Things that a desk keeps under names: teams, rooms and helpers. Nothing is checked here."""

from shrunkrooms.lists import renewed


class Thing:
    """A team, or the steps of a room or the tables of helpers with their team; it never changes."""

    def __init__(self, kind, team, rows):
        self.kind = kind
        self.team = team
        self.rows = rows


def team_thing(team):
    """The thing that is a team by itself."""
    return Thing("team", team, [])


def told_thing(thing):
    """The thing as a desk tells it: a Team, or a tuple of it and new lists."""
    if thing.kind == "team":
        return thing.team
    return thing.team, renewed(thing.rows)


def are_same(thing, other):
    """Whether both things of one kind are the same."""
    return thing.team == other.team and thing.rows == other.rows
