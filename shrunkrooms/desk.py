"""A desk that keeps teams, rooms and helpers under names, and claims about them under labels."""

from shrunkrooms.books import Book, after, after_all
from shrunkrooms.checks import is_list
from shrunkrooms.claims import contrary, is_claim, is_paper_of
from shrunkrooms.commands import is_deed
from shrunkrooms.errors import InvalidLines, InvalidPaper, UnknownLabel, UnknownName
from shrunkrooms.lists import renewed
from shrunkrooms.stands import Stand, claim_now
from shrunkrooms.things import told_thing


class Desk:
    """A desk; all that it holds is in one book, in whose place each command puts another one."""

    def __init__(self):
        self._book = Book(Stand({}, {}, {}), [], [], {})

    @property
    def names(self):
        """The names, sorted."""
        return sorted(self._book.stand.things)

    @property
    def labels(self):
        """The labels, sorted."""
        return sorted(self._book.stand.notes)

    def __len__(self):
        return len(self._book.done)

    def __iter__(self):
        raise TypeError("a desk is not iterated over")

    def __getitem__(self, at):
        if at not in self:
            raise UnknownName(at)
        return told_thing(self._book.stand.things[at])

    def __contains__(self, x):
        return isinstance(x, str) and x in self._book.stand.things

    def __call__(self, command):
        return self.do(command)

    def do(self, command):
        """Does a command; its answer."""
        self._book, answer = after(self._book, command)
        return answer

    def do_all(self, *commands):
        """Does all commands, or none if one fails; the list of the answers."""
        self._book, answers = after_all(self._book, commands)
        return answers

    def attempt(self, *commands):
        """The answers that all commands would have; nothing is done."""
        _, answers = after_all(self._book, commands)
        return answers

    def claim_of(self, label):
        """The label's claim with what is kept now; None while its state is gone."""
        claim = claim_now(self._book.stand, self._noted(label))
        return claim if is_claim(claim) else None

    def attach(self, label, paper):
        """Keeps a paper of the label's claim, or of its contrary, with the label."""
        claim = self.claim_of(label)
        if claim is None:
            raise InvalidPaper(paper)
        if not is_paper_of(claim, paper):
            claim = contrary(claim)
            if not is_paper_of(claim, paper):
                raise InvalidPaper(paper)
        book = self._book
        papers = {**book.papers, label: (self._noted(label), claim[0], renewed(paper))}
        self._book = Book(book.stand, book.done, book.taken_back, papers)

    def fits(self, label):
        """Whether the paper that is kept with the label for its words shows now what it showed then."""
        claim = self.claim_of(label)
        if claim is None or label not in self._book.papers:
            return False
        noted, word, paper = self._book.papers[label]
        if noted != self._noted(label):
            return False
        return is_paper_of(claim if claim[0] == word else contrary(claim), paper)

    def lines(self):
        """The lines of the deeds that are not taken back."""
        return [line for line, _ in self._book.done]

    def copy(self):
        """A desk that holds the same and goes on by itself."""
        desk = Desk()
        desk._book = self._book
        return desk

    @classmethod
    def again(cls, lines):
        """A desk that has done these deeds."""
        if not is_list(lines):
            raise InvalidLines(None)
        for position, line in enumerate(lines):
            if not is_deed(line):
                raise InvalidLines(position)
        desk = cls()
        desk.do_all(*lines)
        return desk

    def _noted(self, label):
        """The words that are noted under the label."""
        if not isinstance(label, str) or label not in self._book.stand.notes:
            raise UnknownLabel(label)
        return self._book.stand.notes[label]


class Trial:
    """A block behind which all of a desk is as it was ahead of it."""

    def __init__(self, desk):
        self._desk = desk
        self._book = None

    def __enter__(self):
        self._book = self._desk._book
        return self._desk

    def __exit__(self, kind, value, trace):
        self._desk._book = self._book


def tried(desk, action):
    """What the action returns for the desk, which is then as it was."""
    with Trial(desk) as held:
        return action(held)
