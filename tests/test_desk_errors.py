"""What a desk refuses: each error with its value, in their sequence, and nothing is changed."""

import unittest

from shrunkrooms.desk import Desk
from shrunkrooms.errors import (CommandFailed, InvalidClaim, InvalidCommand, InvalidHelpers, InvalidLetters, InvalidLists,
                                InvalidMany, InvalidNumbers, InvalidPaper, InvalidPlace, InvalidPlaces, InvalidRoom, InvalidTable,
                                InvalidTables, LabelTaken, NameTaken, NotFull, NothingLeft, NothingToRedo, NothingToUndo, TooMany,
                                UnknownLabel, UnknownName, UnlikeMany, UnlikeTeams)
from shrunkrooms.ratios import Ratio
from tests.test_commands import NO_STRINGS
from tests.test_desk import LOST, WIDE, ground
from tests.tools import STRANGE, Case, ratios

UNWANTED = ["", "x", "names ", " names", "team x 1,0;0", "room", "claim k full", "undo 1", "Names", "show", "entry t 0 0 0 1000000"]
# The deeds that keep something new, with ? for its name.
MAKERS = ["team ? 1", "pattern ? 1 1 00", "pairs ? 1:1", "signs ?", "upright ? t", "without ? t 0", "with ? t 1,0;0,1", "beside ? t t",
          "letters ? t 1,0;0,1 1,0;0,1", "remixed ? t 1,1", "behind ? r", "within ? r", "room ? t", "least ? t", "greatest ? t",
          "lossy ? t", "joined ? r q", "shared ? r q", "helpers ? t 1 1", "free ? t"]


def full_desk(names=12, labels=0):
    """A desk with so many names and labels."""
    desk = Desk()
    desk.do("team t 1,0;0,0 0,1;0,0")
    desk.do_all(*[f"signs s{at}" for at in range(names - 1)])
    desk.do_all(*[f"claim k{at} full t" for at in range(labels)])
    return desk


class DeskCase(Case):
    def stand(self, desk):
        """All that a desk shows of itself."""
        shown = [desk.do(f"show {name}") for name in desk.names]
        claims = [repr(desk.claim_of(label)) for label in desk.labels]
        return desk.names, desk.labels, shown, claims, desk.do("states"), desk.lines(), len(desk), [desk.fits(label) for label in desk.labels]

    def refused(self, desk, error, attributes, command):
        """The command fails in each way of doing it, with attributes of these worths, and nothing is changed."""
        ahead = self.stand(desk)
        for way in (desk.do, desk, lambda value: desk.do(command=value)):
            with self.assertRaises(error) as held:
                way(command)
            self.assertIs(held.exception.__class__, error)
            self.assertEqual(vars(held.exception), attributes)
            self.assertEqual(repr(vars(held.exception)), repr(attributes))
            self.assertEqual(self.stand(desk), ahead)
        for way in (desk.do_all, desk.attempt):
            with self.assertRaises(CommandFailed) as held:
                way("states", command)
            self.assertIs(held.exception.__class__, CommandFailed)
            self.assertEqual(vars(held.exception), {"position": 1})
            self.assertIs(held.exception.__cause__.__class__, error)
            self.assertEqual(repr(vars(held.exception.__cause__)), repr(attributes))
            self.assertEqual(self.stand(desk), ahead)

    def refused_value(self, desk, error, value, command):
        self.refused(desk, error, {"value": value}, command)


class Commands(DeskCase):
    def test_no_commands(self):
        desk = ground()
        for value in UNWANTED + [value for value in NO_STRINGS if "0x" not in repr(value)]:
            self.refused_value(desk, InvalidCommand, value, value)
        for value in NO_STRINGS:
            with self.assertRaises(InvalidCommand) as held:
                desk.do(value)
            self.assertIs(held.exception.value, value)


class Taken(DeskCase):
    def test_names(self):
        desk = ground()
        self.assertEqual(len(MAKERS), 20)
        for maker in MAKERS:
            for name in ("t", "r", "h"):
                self.refused(desk, NameTaken, {"name": name}, maker.replace("?", name))
        # Ahead of names under which nothing is kept, and of what functions refuse.
        for command in ("upright t x", "room t x 1", "behind r x", "joined r x y", "free t r", "team t 1,2,3,4,5", "pattern t 0 0 00",
                        "least t h", "helpers t x 1", "room r t 1,2,3"):
            self.refused(desk, NameTaken, {"name": command.split(" ")[1]}, command)

    def test_names_on_a_full_desk(self):
        desk = full_desk(12)
        self.refused(desk, NameTaken, {"name": "t"}, "signs t")

    def test_labels(self):
        desk = ground()
        desk.do("claim k full s")
        for command in ("claim k full s", "claim k full x", "claim k most t", "claim k lacks t 9", "claim k simple w"):
            self.refused(desk, LabelTaken, {"label": "k"}, command)
        # A label may be a name, too.
        self.assertEqual(desk.do("claim t full c"), "t true")
        self.assertEqual(desk.do("signs k"), "-")
        desk = full_desk(1, 12)
        self.refused(desk, LabelTaken, {"label": "k3"}, "claim k3 full t")


class Unknown(DeskCase):
    def test_names_of_each_kind(self):
        desk = ground()
        for command, wrong in [
                ("upright x ?", "xrh"), ("without x ? 0", "xrh"), ("with x ? 1,0;0,1", "xrh"), ("beside x ? t", "xrh"), ("beside x t ?", "xrh"),
                ("letters x ? 1 1", "xrh"), ("remixed x ? 1", "xrh"), ("behind x ?", "xth"), ("within x ?", "xth"), ("room x ? 1", "xrh"),
                ("room x ?", "xrh"), ("least x ?", "xrh"), ("greatest x ?", "xrh"), ("lossy x ?", "xrh"), ("joined x ? r", "xth"),
                ("joined x r ?", "xth"), ("shared x ? r", "xth"), ("shared x r ?", "xth"), ("helpers x ? 1 1", "xrh"), ("free x ?", "xrh"),
                ("entry ? 0 0 0 1", "xrh"), ("drop ?", "x"), ("show ?", "x"), ("size ?", "x"), ("lack ?", "xrh"), ("plain ?", "xrh"),
                ("three ?", "xrh"), ("loss ?", "xth"), ("made ?", "xth"), ("rank ?", "xtr"), ("blocks ?", "xrh"), ("slopes ?", "xrh"),
                ("same ? t", "x"), ("same t ?", "xrh"), ("same r ?", "xth"), ("same h ?", "xtr")]:
            for name in wrong:
                self.refused_value(desk, UnknownName, name, command.replace("?", name))

    def test_names_of_claims(self):
        desk = ground()
        for word in ("lacks ? 1", "keeps ? 9", "full ?", "shrunk ?", "simple ?", "falls ?", "fades ?", "lasts ?", "fair ? 9 9", "unfair ? 1 1"):
            for name in "xrh":
                self.refused_value(desk, UnknownName, name, f"claim k {word.replace('?', name)}")
        for word in ("most ?", "less ?"):
            for name in "xth":
                self.refused_value(desk, UnknownName, name, f"claim k {word.replace('?', name)}")

    def test_the_first_one(self):
        desk = ground()
        for command, name in [("beside x y z", "y"), ("beside x t z", "z"), ("joined x t h", "t"), ("joined x r h", "h"), ("same y z", "y"),
                              ("same r t", "t"), ("shared x y r", "y"), ("upright x x", "x"), ("entry r 99 99 99 1", "r"),
                              ("without x r 99", "r"), ("room x r 1,2,3", "r"), ("helpers x y 1", "y"), ("letters x y 0 0", "y")]:
            self.refused_value(desk, UnknownName, name, command)

    def test_labels(self):
        desk = ground()
        desk.do("claim k full s")
        for command in ("forget t", "state t", "claimed t", "forget x", "state gone", "claimed s"):
            self.refused_value(desk, UnknownLabel, command.split(" ")[1], command)
        desk.do("forget k")
        for command in ("forget k", "state k", "claimed k"):
            self.refused_value(desk, UnknownLabel, "k", command)

    def test_values_that_are_no_names_and_labels(self):
        desk = ground()
        desk.do("claim k full s")
        for value in STRANGE + ["x", "k", "T", 0, Ratio(1), [], ["t"], ("t",), b"t", desk]:
            self.fails_value(UnknownName, value, desk.__getitem__, value)
        for value in STRANGE + ["x", "t", "K", 0, Ratio(1), [], ["k"], ("k",), b"k", desk]:
            self.fails_value(UnknownLabel, value, desk.claim_of, value)
            self.fails_value(UnknownLabel, value, desk.claim_of, label=value)
            self.fails_value(UnknownLabel, value, desk.fits, value)
            self.fails_value(UnknownLabel, value, desk.fits, label=value)
            self.fails_value(UnknownLabel, value, desk.attach, value, [])
            self.fails_value(UnknownLabel, value, desk.attach, paper=None, label=value)
        self.assertEqual(desk.labels, ["k"])


class OfFunctions(DeskCase):
    def test_teams(self):
        desk = ground()
        one, two = Ratio(1), Ratio(2)
        for command, error, value in [
                ("team x 1,2,3,4,5", InvalidTables, [ratios([[1, 2, 3, 4, 5]])]), ("team x 1 1,2", InvalidTables, [[[one]], [[one, two]]]),
                ("team x" + " 1" * 17, InvalidTables, [[[one]]] * 17), ("team x 1;1;1;1;1/2", InvalidTables, [ratios([[1], [1], [1], [1], [Ratio(1, 2)]])]),
                ("pattern x 0 0 99", InvalidMany, 0), ("pattern x 5 0 99", InvalidMany, 5), ("pattern x 4 99 99", InvalidMany, 99),
                ("pattern x 2 2 01 00", InvalidPlaces, [(0, 1), (0, 0)]), ("pattern x 2 2 02", InvalidPlaces, [(0, 2)]),
                ("pattern x 2 2 00 00", InvalidPlaces, [(0, 0), (0, 0)]), ("pairs x 1:1 1,2:1", InvalidLists, [[one], [one, two]]),
                ("pairs x 1:1,1,1,1,1", InvalidLists, [[one] * 5]), ("pairs x 1,1:1,2 1:1", InvalidLists, [[one, one], [one]]),
                ("pairs x 1:2 1:1,2", InvalidLists, [[two], [one, two]]), ("without x t 2", InvalidPlace, 2), ("without x t 99", InvalidPlace, 99),
                ("with x t 1,2", InvalidTable, ratios([[1, 2]])), ("with x w 1;2;3", InvalidTable, ratios([[1], [2], [3]])),
                ("letters x t 1 1", InvalidLetters, [[one]]), ("letters x t 1,0;0,1 1,1;1,1", InvalidLetters, ratios([[1, 1], [1, 1]])),
                ("letters x t 1,1;1,1 5", InvalidLetters, ratios([[1, 1], [1, 1]])), ("remixed x t 1", InvalidNumbers, [[one]]),
                ("remixed x t 1,2 1", InvalidNumbers, [[one, two], [one]]), ("remixed x t" + " 1,2" * 17, InvalidNumbers, [[one, two]] * 17),
                ("room x t 1", InvalidRoom, [[one]]), ("room x t 1,1 2,2", InvalidRoom, ratios([[1, 1], [2, 2]])), ("room x t 0,0", InvalidRoom, ratios([[0, 0]])),
                ("room x w 1,0,0 1,1", InvalidRoom, [ratios([[1, 0, 0]])[0], [one, one]]), ("helpers x t 1", InvalidHelpers, [[[one]]]),
                ("helpers x t 1 1,2", InvalidHelpers, [[[one]], [[one, two]]]), ("helpers x t 1 1 1", InvalidHelpers, [[[one]]] * 3),
                ("entry t 2 9 9 1", InvalidPlace, 2), ("entry t 0 2 9 1", InvalidPlace, 2), ("entry t 0 0 99 1", InvalidPlace, 99),
                ("entry w 1 1 3 1", InvalidPlace, 3)]:
            self.refused_value(desk, error, value, command)

    def test_errors_of_state(self):
        desk = ground()
        desk.do("drop q")
        desk.do("pattern one 1 1 00")
        for command, error in [("without x one 0", NothingLeft), ("beside x t one", UnlikeMany), ("behind x all", NothingLeft),
                               ("within x n", NothingLeft), ("joined x r a", UnlikeTeams), ("shared x a r", UnlikeTeams), ("blocks t", NotFull),
                               ("blocks w", NotFull)]:
            if "all" in command:
                desk.do("room all one 1")
            self.refused(desk, error, {}, command)

    def test_limits_of_functions(self):
        desk = Desk()
        desk.do_all("team f 1,0,0,0;0,1,0,0;0,0,1,0;0,0,0,1", "team t 1,1", "pairs w " + " ".join(["1:1"] * 16), "pairs m " + " ".join(["1:1"] * 7))
        for command, what, limit in [("blocks f", "places", 3), ("slopes f", "places", 3), ("beside x f t", "places", 4), ("with x w 1", "tables", 16),
                                     ("plain m", "tables", 6), ("plain w", "tables", 6), ("beside x t f", "places", 4)]:
            self.refused(desk, TooMany, {"what": what, "limit": limit}, command)
        self.assertEqual([desk.do("lack f"), desk.do("lack m")], ["0", "0"])


class Claims(DeskCase):
    def test_no_claims(self):
        desk = ground()
        desk.do("team f 1,0,0,0;0,1,0,0;0,0,1,0;0,0,0,1")
        four = desk["f"]
        for words, value in [
                ("lacks t 0", ("lacks", LOST, 0)), ("lacks t 3", ("lacks", LOST, 3)), ("keeps w 4", ("keeps", WIDE, 4)), ("full w", ("full", WIDE)),
                ("shrunk w", ("shrunk", WIDE)), ("simple w", ("simple", WIDE)), ("falls w", ("falls", WIDE)), ("fades w", ("fades", WIDE)),
                ("lasts w", ("lasts", WIDE)), ("fair t 0 1", ("fair", LOST, 0, 1)), ("fair t 1 4", ("fair", LOST, 1, 4)),
                ("unfair w 99 0", ("unfair", WIDE, 99, 0)), ("simple f", ("simple", four)), ("falls f", ("falls", four)),
                ("fair f 1 1", ("fair", four, 1, 1)), ("unfair f 1 1", ("unfair", four, 1, 1))]:
            self.refused_value(desk, InvalidClaim, value, f"claim k {words}")
        self.assertEqual(desk.labels, [])
        self.assertEqual(desk.do_all("claim k full f", "claim l lacks f 4", "claim m lacks w 3"), ["k true", "l false", "m false"])

    def test_states_that_limits_and_sides_make(self):
        desk = Desk()
        desk.do_all("team t 1", "claim a simple t", "claim b fair t 1 1", "claim c lacks t 1", "claim d full t")
        self.assertEqual(desk.do("states"), "a true, b true, c false, d true")
        desk.do("drop t")
        self.assertEqual(desk.do("team t 1,0,0,0;0,1,0,0;0,0,1,0;0,0,0,1"), "c false, d true")
        desk.do("drop t")
        self.assertEqual(desk.do("team t 1,0"), "b false, c true")
        self.assertEqual(desk.do("states"), "a gone, b false, c true, d gone")
        self.assertEqual(desk.do_all("drop t", "signs u", "room t u"), ["b gone, c gone", "-", "-"])


class Limits(DeskCase):
    def test_names(self):
        desk = full_desk(12)
        desk.do_all("drop s0", "room r t 1,1", "drop s1", "room q t 1,0")
        self.assertEqual(len(desk.names), 12)
        for maker in MAKERS:
            self.refused(desk, TooMany, {"what": "names", "limit": 12}, maker.replace("?", "x"))
        # What functions refuse comes ahead.
        self.refused_value(desk, InvalidPlace, 2, "without x t 2")
        self.refused_value(desk, UnknownName, "y", "upright x y")
        self.assertEqual(desk.do_all("entry t 1 1 1 0", "claim k full t", "drop r", "signs x", "undo", "redo"), ["-", "k false", "-", "-", "signs x", "signs x"])
        self.refused(desk, TooMany, {"what": "names", "limit": 12}, "signs r")

    def test_labels(self):
        desk = full_desk(12, 12)
        self.refused(desk, TooMany, {"what": "labels", "limit": 12}, "claim x full t")
        self.refused_value(desk, InvalidClaim, ("lacks", LOST, 3), "claim x lacks t 3")
        self.refused_value(desk, UnknownName, "y", "claim x full y")
        self.assertEqual(desk.do_all("forget k0", "claim x full t"), ["-", "x false"])
        self.refused(desk, TooMany, {"what": "names", "limit": 12}, "signs r")

    def test_deeds(self):
        desk = Desk()
        for _ in range(50):
            desk.do_all("team t 1", "claim k full t", "entry t 0 0 0 2", "drop t", "forget k", "signs s")
            desk.do("undo")
        self.assertEqual(len(desk), 250)
        self.assertEqual(desk.do("redo"), "signs s")
        desk.do_all(*["entry s 0 0 0 5"] * 49)
        self.assertEqual((len(desk), len(desk.lines())), (300, 300))
        limit = {"what": "deeds", "limit": 300}
        for command in ("team t 1", "drop s", "entry s 0 0 0 6", "claim k full s"):
            self.refused(desk, TooMany, limit, command)
        self.refused_value(desk, InvalidPlace, 3, "entry s 3 0 0 1")
        self.refused_value(desk, UnknownName, "x", "drop x")
        self.refused_value(desk, UnknownLabel, "k", "forget k")
        self.refused(desk, NothingToRedo, {}, "redo")
        self.assertEqual([desk.do("names"), desk.do("lack s"), desk.do("undo"), desk.do("claim k full s")], ["s", "0", "entry s 0 0 0 5", "k true"])
        self.refused(desk, TooMany, limit, "forget k")
        lines = desk.lines()
        self.assertEqual(self.stand(Desk.again(lines)), self.stand(desk))
        with self.assertRaises(CommandFailed) as held:
            Desk.again(lines + ["drop s"])
        self.assertEqual((held.exception.position, vars(held.exception.__cause__)), (300, limit))

    def test_names_ahead_of_deeds(self):
        desk = full_desk(12, 12)
        desk.do_all(*["entry t 0 0 0 5"] * (300 - len(desk)))
        self.refused(desk, TooMany, {"what": "names", "limit": 12}, "signs x")
        self.refused(desk, TooMany, {"what": "labels", "limit": 12}, "claim x full t")
        self.refused(desk, TooMany, {"what": "deeds", "limit": 300}, "entry t 0 0 0 6")


class Nothing(DeskCase):
    def test_undo_and_redo(self):
        desk = Desk()
        self.refused(desk, NothingToUndo, {}, "undo")
        self.refused(desk, NothingToRedo, {}, "redo")
        desk.do("signs s")
        self.refused(desk, NothingToRedo, {}, "redo")
        desk.do("undo")
        self.refused(desk, NothingToUndo, {}, "undo")
        desk.do("redo")
        self.refused(desk, NothingToRedo, {}, "redo")
        desk.do_all("undo", "signs x")
        self.refused(desk, NothingToRedo, {}, "redo")

    def test_papers(self):
        desk = ground()
        desk.do("claim k full t")
        for value in STRANGE + [[], (), 0, [[1]], [[1, 0]], desk, ("shrunk", LOST)]:
            self.fails_value(InvalidPaper, value, desk.attach, "k", value)
            self.fails_value(InvalidPaper, value, desk.attach, paper=value, label="k")


if __name__ == "__main__":
    unittest.main()
