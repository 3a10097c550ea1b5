"""What a desk has done, and what comes of commands: each leaves the book as it is and gives a new one."""

from shrunkrooms.answers import told_of
from shrunkrooms.commands import DEEDS, parsed
from shrunkrooms.deeds import made_thing, with_entry
from shrunkrooms.errors import (CommandFailed, InvalidCommand, LimitError, MissingError, NothingToRedo, NothingToUndo,
                                RoomError, StateError, TooMany)
from shrunkrooms.stands import NOTED, changes, forgetting, found_parts, keeping, noting, told_stand, want_free

MOST_DEEDS = 300


class Book:
    """How things stand; the deeds done, those taken back, each with the stand to go back to; papers by labels.

    It never changes.
    """

    def __init__(self, stand, done, taken_back, papers):
        self.stand = stand
        self.done = done
        self.taken_back = taken_back
        self.papers = papers


def after(book, command):
    """The book behind a command, and its answer."""
    told = parsed(command)
    if told is None:
        raise InvalidCommand(command)
    word, kinds, parts = told
    want_free(book.stand, kinds, parts)
    found = found_parts(book.stand, kinds, parts)
    if word == "undo":
        return _undone(book)
    if word == "redo":
        return _redone(book)
    if word in NOTED:
        return book, told_stand(book.stand, word, parts)
    if word not in DEEDS:
        return book, told_of(word, found)
    stand = _changed(book.stand, word, parts, found)
    if len(book.done) == MOST_DEEDS:
        raise TooMany("deeds", MOST_DEEDS)
    return Book(stand, [*book.done, (command, book.stand)], [], book.papers), changes(book.stand, stand)


def after_all(book, commands):
    """The book behind all commands, and the list of their answers."""
    answers = []
    for position, command in enumerate(commands):
        try:
            step = after(book, command)
        except (RoomError, MissingError, StateError, LimitError) as why:
            raise CommandFailed(position) from why
        book, answer = step
        answers.append(answer)
    return book, answers


def _changed(stand, word, parts, found):
    """The stand behind a deed of this word."""
    name, *words = parts
    if word == "claim":
        return noting(stand, name, tuple(words))
    if word == "forget":
        return forgetting(stand, name)
    if word == "drop":
        return keeping(stand, name, None)
    if word == "entry":
        return keeping(stand, name, with_entry(*found))
    return keeping(stand, name, made_thing(word, found[1:]))


def _undone(book):
    """The book without the last deed, and its line."""
    if len(book.done) == 0:
        raise NothingToUndo()
    line, ahead = book.done[-1]
    return Book(ahead, book.done[:-1], [*book.taken_back, (line, book.stand)], book.papers), line


def _redone(book):
    """The book with the deed that was taken back last, and its line."""
    if len(book.taken_back) == 0:
        raise NothingToRedo()
    line, behind = book.taken_back[-1]
    return Book(behind, [*book.done, (line, book.stand)], book.taken_back[:-1], book.papers), line
