"""The errors of the package, one class for each kind of failure."""


class RoomError(ValueError):
    """A value that was passed is not what is wanted."""


class MissingError(LookupError):
    """Nothing is kept under what was passed."""


class StateError(RuntimeError):
    """What was passed is valid, but things stand otherwise than is wanted."""


class LimitError(ArithmeticError):
    """There would be more than there may be."""


class InvalidGrid(RoomError):
    """No grid."""

    def __init__(self, value):
        self.value = value


class InvalidHelpers(RoomError):
    """No helpers of the team."""

    def __init__(self, value):
        self.value = value


class InvalidList(RoomError):
    """No list of so many numbers."""

    def __init__(self, value):
        self.value = value


class InvalidMany(RoomError):
    """No count within the bounds."""

    def __init__(self, value):
        self.value = value


class InvalidNumber(RoomError):
    """No number, or none that may stand there."""

    def __init__(self, value):
        self.value = value


class InvalidPlace(RoomError):
    """No place, or none of those that there are."""

    def __init__(self, value):
        self.value = value


class InvalidPlaces(RoomError):
    """No rising list of unlike places."""

    def __init__(self, value):
        self.value = value


class InvalidRoom(RoomError):
    """No room, or no far room, of the team."""

    def __init__(self, value):
        self.value = value


class InvalidTable(RoomError):
    """No table, or none of these sides."""

    def __init__(self, value):
        self.value = value


class InvalidTeam(RoomError):
    """No team."""

    def __init__(self, value):
        self.value = value


class DividedByZero(RoomError):
    """A number was to be divided by 0."""

    def __init__(self):
        pass


class InvalidChain(RoomError):
    """No chain of the team."""

    def __init__(self, value):
        self.value = value


class InvalidClaim(RoomError):
    """No claim."""

    def __init__(self, value):
        self.value = value


class InvalidCommand(RoomError):
    """No command."""

    def __init__(self, value):
        self.value = value


class InvalidForm(RoomError):
    """No value of the sort."""

    def __init__(self, value):
        self.value = value


class InvalidLetters(RoomError):
    """No table of letters that can be undone."""

    def __init__(self, value):
        self.value = value


class InvalidLines(RoomError):
    """No list of deeds."""

    def __init__(self, position):
        self.position = position


class InvalidLists(RoomError):
    """No lists that are alike long."""

    def __init__(self, value):
        self.value = value


class InvalidNumbers(RoomError):
    """No list of numbers, or of lists of them, as wanted."""

    def __init__(self, value):
        self.value = value


class InvalidPaper(RoomError):
    """No paper of what is claimed."""

    def __init__(self, value):
        self.value = value


class InvalidSort(RoomError):
    """No word of a sort."""

    def __init__(self, value):
        self.value = value


class InvalidTables(RoomError):
    """No tables of a team."""

    def __init__(self, value):
        self.value = value


class InvalidText(RoomError):
    """No written form, from this line on."""

    def __init__(self, line):
        self.line = line


class UnknownLabel(MissingError):
    """Nothing is noted under the label."""

    def __init__(self, value):
        self.value = value


class UnknownName(MissingError):
    """Nothing of the wanted kind is kept under the name."""

    def __init__(self, value):
        self.value = value


class CommandFailed(StateError):
    """One of several commands failed."""

    def __init__(self, position):
        self.position = position


class LabelTaken(StateError):
    """The label is taken."""

    def __init__(self, label):
        self.label = label


class NameTaken(StateError):
    """The name is taken."""

    def __init__(self, name):
        self.name = name


class NotFair(StateError):
    """The team is not fair, or not even."""

    def __init__(self):
        pass


class NotFull(StateError):
    """The team is not full."""

    def __init__(self):
        pass


class NotSimple(StateError):
    """A team is not simple."""

    def __init__(self):
        pass


class NotSquare(StateError):
    """A table, or a team, is not square."""

    def __init__(self):
        pass


class NothingLeft(StateError):
    """No place, or no table, would be left."""

    def __init__(self):
        pass


class NothingToRedo(StateError):
    """No deed was taken back that can be done again."""

    def __init__(self):
        pass


class NothingToUndo(StateError):
    """There is no deed to take back."""

    def __init__(self):
        pass


class UnlikeMany(StateError):
    """There are not as many of the one as of the other."""

    def __init__(self):
        pass


class UnlikeTeams(StateError):
    """Both do not belong to equal teams."""

    def __init__(self):
        pass


class UnlikeWidths(StateError):
    """Both are not alike wide."""

    def __init__(self):
        pass


class TooMany(LimitError):
    """There would be more than the limit."""

    def __init__(self, what, limit):
        self.what = what
        self.limit = limit
