"""A desk: what deeds keep and commands tell, against the functions for which they stand and against a plain model."""

import unittest

from shrunkrooms.claims import is_claim
from shrunkrooms.desk import Desk
from shrunkrooms.errors import LimitError, MissingError, RoomError, StateError
from shrunkrooms.helpers import crossed_rank
from shrunkrooms.lacks import free_helpers, lack, loss_room
from shrunkrooms.makers import (behind, beside, in_letters, pairs_team, pattern_team, remixed, sign_team, upright, with_table,
                                within, without)
from shrunkrooms.most import greatest_room, least_room, three
from shrunkrooms.plain import plain_rank
from shrunkrooms.ratios import Ratio
from shrunkrooms.steps import joined, shared
from shrunkrooms.teams import Team, told_room
from tests.desk_model import Model, kind_of
from tests.tools import STRANGE, Case, Draw, ratios

LOST = Team([[[1, 0], [0, 0]], [[0, 1], [0, 0]]])
WIDE = Team([[[1, 0, 0], [0, 0, 1]], [[0, 1, 0], [0, 0, 0]]])
CORNER = pattern_team(2, 2, [(0, 0), (0, 1), (1, 1)])
TWO = [[[1, 0], [0, 1]], [[0, 1], [0, 0]], [[0, 0], [1, 0]]]
GROUND = ["team t 1,0;0,0 0,1;0,0", "team w 1,0,0;0,0,1 0,1,0;0,0,0", "signs s", "pattern c 2 2 00 01 11", "room r t 2,2",
          "room q t 1,0", "room n t", "room a w 1,0,0 1,1,0", "helpers h t 1,0;0,1 0,1;1,0", "helpers g s 1,0;0,1 0,1;0,0 0,0;1,0"]


def ground():
    """A desk with some things."""
    desk = Desk()
    desk.do_all(*GROUND)
    return desk


class Kept(Case):
    def test_ground(self):
        desk = ground()
        self.assertEqual([desk["t"], desk["w"], desk["s"], desk["c"]], [LOST, WIDE, sign_team(), CORNER])
        self.assertEqual(desk["r"], (LOST, ratios([[1, 1]])))
        self.assertEqual(desk["n"], (LOST, []))
        self.assertEqual(desk["a"], (WIDE, ratios([[1, 0, 0], [0, 1, 0]])))
        self.assertEqual(desk["g"], (sign_team(), [ratios(table) for table in TWO]))
        self.assertEqual(desk.names, sorted("twscrqnahg"))
        self.assertEqual(len(desk), 10)

    def test_deeds_that_make_teams(self):
        third, half = Ratio(1, 3), Ratio(-1, 2)
        for command, told in [
                ("team x 1", Team([[[1]]])), ("team x -1/2,1/3;0,7", Team([[[half, third], [0, 7]]])),
                ("team x 1,2,3,4 5,6,7,8", Team([[[1, 2, 3, 4]], [[5, 6, 7, 8]]])),
                ("pattern x 3 2 00 11 20", pattern_team(3, 2, [(0, 0), (1, 1), (2, 0)])), ("pairs x 1,0:2,3,1/3", pairs_team([[1, 0]], [[2, 3, third]])),
                ("pairs x 1:1,2 0:3,4 5:5,6", pairs_team([[1], [0], [5]], [[1, 2], [3, 4], [5, 6]])), ("signs x", sign_team()),
                ("upright x w", upright(WIDE)), ("without x s 1", without(sign_team(), 1)), ("with x t 1,2;3,-1/2", with_table(LOST, [[1, 2], [3, half]])),
                ("beside x t t", beside(LOST, LOST)), ("letters x t 1,2;3,4 0,1;1,0", in_letters(LOST, [[1, 2], [3, 4]], [[0, 1], [1, 0]])),
                ("letters x w 0,1;1,0 1,0,0;1,1,0;0,0,1/3", in_letters(WIDE, [[0, 1], [1, 0]], [[1, 0, 0], [1, 1, 0], [0, 0, third]])),
                ("remixed x t 1,2 3,4 5,-1/2", remixed(LOST, [[1, 2], [3, 4], [5, half]])), ("remixed x s 1,1,1", remixed(sign_team(), [[1, 1, 1]])),
                ("behind x r", behind(LOST, [[1, 1]])), ("behind x n", LOST), ("within x a", within(WIDE, [[1, 0, 0], [0, 1, 0]])),
                ("within x r", within(LOST, [[1, 1]]))]:
            desk = ground()
            self.assertEqual(desk.do(command), "-")
            self.assertEqual(desk["x"], told)
            self.assertIs(desk["x"].__class__, Team)
            self.assertEqual(desk.lines(), GROUND + [command])

    def test_deeds_that_make_rooms(self):
        for command, team, rows in [
                ("room x w 0,2,0 1,1,0", WIDE, [[1, 0, 0], [0, 1, 0]]), ("room x w", WIDE, []), ("room x t 1,-1/2", LOST, [[1, Ratio(-1, 2)]]),
                ("least x t", LOST, least_room(LOST)), ("least x s", sign_team(), []), ("greatest x w", WIDE, greatest_room(WIDE)),
                ("greatest x s", sign_team(), greatest_room(sign_team())), ("lossy x w", WIDE, loss_room(WIDE)), ("joined x r q", LOST, [[1, 0], [0, 1]]),
                ("joined x n r", LOST, [[1, 1]]), ("joined x r r", LOST, [[1, 1]]), ("shared x r q", LOST, []), ("shared x r r", LOST, [[1, 1]]),
                ("shared x a a", WIDE, [[1, 0, 0], [0, 1, 0]]), ("shared x n r", LOST, [])]:
            desk = ground()
            self.assertEqual(desk.do(command), "-")
            self.assertEqual(desk["x"], (team, ratios(rows)))
            self.assertEqual(desk["x"][1], told_room(team, rows))
        self.assertEqual(joined([[1, 1]], [[1, 0]]), ratios([[1, 0], [0, 1]]))
        self.assertEqual(shared([[1, 1]], [[1, 0]]), [])

    def test_deeds_that_make_helpers(self):
        for command, team, tables in [("helpers x t 1 -1/2", LOST, [[[1]], [[Ratio(-1, 2)]]]), ("helpers x t 1,2,3 4,5,6", LOST, [[[1, 2, 3]], [[4, 5, 6]]]),
                                      ("free x s", sign_team(), free_helpers(sign_team())), ("free x w", WIDE, free_helpers(WIDE))]:
            desk = ground()
            self.assertEqual(desk.do(command), "-")
            self.assertEqual(desk["x"], (team, [ratios(table) for table in tables]))
            self.assertEqual(desk.do("rank x"), str(crossed_rank(team, tables)))

    def test_entry_and_drop(self):
        desk = ground()
        self.assertEqual(desk.do("entry t 1 1 0 -2/3"), "-")
        changed = Team([[[1, 0], [0, 0]], [[0, 1], [Ratio(-2, 3), 0]]])
        self.assertEqual(desk["t"], changed)
        # What is kept does not hang on other names.
        self.assertEqual(desk["r"], (LOST, ratios([[1, 1]])))
        self.assertEqual(desk.do("made q"), "1,0")
        self.assertEqual(desk.do("drop t"), "-")
        self.assertNotIn("t", desk)
        self.assertEqual([desk.do("loss r"), desk.do("rank h"), desk.do("names")], ["0", str(crossed_rank(LOST, desk["h"][1])), "a c g h n q r s w"])
        self.assertEqual(desk.do("team t 5"), "-")
        self.assertEqual(desk.do("size t"), "1 1 1")
        self.assertEqual(desk.do("upright v t"), "-")
        self.assertEqual(desk.do("entry v 0 0 0 0"), "-")
        self.assertEqual([desk["t"], desk["v"]], [Team([[[5]]]), Team([[[0]]])])
        self.assertEqual(desk.do_all("drop h", "drop r", "names"), ["-", "-", "a c g n q s t v w"])


class Told(Case):
    def test_answers(self):
        desk = ground()
        desk.do_all("drop q", "team k 1/2,-1/3 0,7", "room all t 0,1 1,0", "helpers f k 1,2;3,4 5,6;7,-1/2")
        for command, told in [
                ("show t", "1,0;0,0 0,1;0,0"), ("show k", "1/2,-1/3 0,7"), ("show n", "-"), ("show r", "1,1"), ("show all", "1,0 0,1"),
                ("show f", "1,2;3,4 5,6;7,-1/2"), ("size t", "2 2 2"), ("size w", "2 2 3"), ("size n", "0"), ("size a", "2"), ("size f", "2 2"),
                ("size g", "2 2"), ("size k", "2 1 2"), ("lack t", "1"), ("lack s", "0"), ("plain s", "2"), ("plain t", "1"), ("three t", "1 2 0 0 1 0"),
                ("three s", "0 0 3 3 0 0"), ("loss all", "1"), ("loss r", "0"), ("loss n", "0"), ("made all", "1,0"), ("made n", "-"), ("made a", "1,0"),
                ("rank g", "6"), ("blocks s", "3"), ("blocks c", "1 1"), ("slopes w", "1 2, 1 1"), ("slopes s", "3 3"), ("same t t", "yes"),
                ("same t c", "no"), ("same r all", "no"), ("same n r", "no"), ("same h h", "yes"), ("same h g", "no"),
                ("names", "a all c f g h k n r s t w"), ("states", "-")]:
            self.assertEqual(desk.do(command), told, command)
            self.assertEqual(desk(command), told)
            self.assertEqual(desk.do(command=command), told)
        self.assertEqual(len(desk), 14)

    def test_three_and_others_by_their_functions(self):
        desk = Desk()
        desk.do("team p 1,0,0;0,0,0;0,0,1 0,1,0;0,0,0;0,0,0")
        team = desk["p"]
        self.assertEqual(desk.do("three p"), " ".join(str(count) for part in three(team) for count in part))
        self.assertEqual([desk.do("lack p"), desk.do("plain p")], [str(lack(team)), str(plain_rank(team))])
        desk.do("team tall 1;0 0;1")
        desk.do("room x tall 1")
        self.assertEqual([desk.do("loss x"), desk.do("made x"), desk.do("slopes tall")], ["-1", "1,0 0,1", "2 1"])
        desk.do("team none 0,0;0,0")
        self.assertEqual([desk.do("slopes none"), desk.do("three none"), desk.do("lossy l none"), desk.do("made l")], ["0 2", "0 2 0 0 2 0", "-", "-"])

    def test_nothing_yet(self):
        desk = Desk()
        self.assertEqual([desk.do("names"), desk.do("states"), desk.names, desk.labels, len(desk), desk.lines()], ["-", "-", [], [], 0, []])

    def test_same(self):
        desk = ground()
        desk.do_all("drop g", "drop s", "team t2 1,0;0,0 0,1;0,0", "room r2 t2 3,3", "room r3 t 1,2", "helpers h2 t2 1,0;0,1 0,1;1,0")
        self.assertEqual([desk.do("same t t2"), desk.do("same r r2"), desk.do("same r r3"), desk.do("same h h2")], ["yes", "yes", "no", "yes"])
        desk.do("entry t2 0 0 0 5")
        self.assertEqual([desk.do("same t t2"), desk.do("same r r2"), desk.do("same h h2")], ["no", "yes", "yes"])
        desk.do_all("drop n", "drop q", "room m t2", "room n t")
        # Of unlike teams: also nothing, also the same rows.
        self.assertEqual(desk.do("same n m"), "no")
        desk.do_all("drop h2", "helpers h2 t2 1,0;0,1 0,1;1,0")
        self.assertEqual(desk.do("same h h2"), "no")

    def test_numbers_with_as_many_digits_as_there_are(self):
        desk = Desk()
        desk.do_all("team t 999999/999998", "letters u t 999999 999999/999998", "letters v u 999999 999999")
        self.assertEqual(desk.do("show v"), str(desk["v"].tables()[0][0][0]))
        self.assertGreater(len(desk.do("show v")), 30)


class Asked(Case):
    def test_names_and_things(self):
        desk = ground()
        for value in STRANGE + ["x", "T", "t ", "", 0, 1, Ratio(1), [], ["t"], ("t",), b"t", desk, [["t"]]]:
            self.assertIs(value in desk, False)
        for name in desk.names:
            self.assertIs(name in desk, True)
        for what in (lambda: desk.names, lambda: desk.labels, desk.lines, lambda: desk["a"][1], lambda: desk["h"][1], lambda: desk["h"][1][0]):
            first = what()
            self.assertIs(first.__class__, list)
            first.append("x")
            self.assertEqual(what(), first[:-1])
        desk["a"][1][0][0] = None
        desk["h"][1][0][0].clear()
        self.assertEqual(desk["a"], (WIDE, ratios([[1, 0, 0], [0, 1, 0]])))
        self.assertEqual(desk["h"], (LOST, [ratios([[1, 0], [0, 1]]), ratios([[0, 1], [1, 0]])]))
        for name in "arhg":
            self.assertIs(desk[name].__class__, tuple)
        self.assertEqual(len(desk), 10)
        with self.assertRaises(TypeError):
            iter(desk)

    def test_claim_of(self):
        desk = ground()
        desk.do_all("claim k lacks t 1", "claim m most a", "claim f fair w 2 3", "claim s full s")
        self.assertEqual([desk.claim_of("k"), desk.claim_of("m"), desk.claim_of("f"), desk.claim_of(label="s")],
                         [("lacks", LOST, 1), ("most", WIDE, ratios([[1, 0, 0], [0, 1, 0]])), ("fair", WIDE, 2, 3), ("full", sign_team())])
        for label in desk.labels:
            self.assertIs(is_claim(desk.claim_of(label)), True)
        desk.claim_of("m")[2].clear()
        self.assertEqual(len(desk.claim_of("m")[2]), 2)
        self.assertEqual(desk.labels, ["f", "k", "m", "s"])
        self.assertEqual([desk.do(f"claimed {label}") for label in desk.labels], ["fair w 2 3", "lacks t 1", "most a", "full s"])
        desk.do_all("drop t", "drop a")
        self.assertEqual([desk.claim_of("k"), desk.claim_of("m")], [None, None])
        desk.do_all("team t 1", "team a 1")
        self.assertEqual([desk.claim_of("k"), desk.claim_of("m")], [("lacks", Team([[[1]]]), 1), None])


POOL = ["t", "u", "v", "r", "s", "h", "x", "y"]
LABELS = ["k", "l", "t"]
FEW = ["0", "1", "-1", "2", "1/2", "3", "0"]


class Commands:
    """Commands whose names are drawn, mostly of the wanted kind, so that some fail."""

    def __init__(self, draw, things):
        self.draw, self.things, self.pick = draw, things, draw.random.choice

    def name(self, kind=None):
        fitting = [name for name in self.things if kind is None or kind_of(self.things[name]) == kind]
        return self.pick(fitting) if fitting and self.draw.count(1, 8) > 1 else self.pick(POOL)

    def new(self):
        free = [name for name in POOL if name not in self.things]
        return self.pick(free) if free and self.draw.count(1, 8) > 1 else self.pick(POOL)

    def row(self, wide):
        return ",".join(self.pick(FEW) for _ in range(wide))

    def table(self, tall, wide):
        return ";".join(self.row(wide) for _ in range(tall))

    def claim(self):
        label = self.pick(LABELS)
        word = self.pick("lacks keeps full shrunk most less simple falls fair unfair fades lasts".split())
        name = self.name("room" if word in ("most", "less") else "team")
        counts = {"lacks": f" {self.draw.count(0, 3)}", "keeps": f" {self.draw.count(1, 3)}", "fair": f" 1 {self.draw.count(1, 4)}",
                  "unfair": f" 2 {self.draw.count(0, 3)}"}
        return f"claim {label} {word} {name}{counts.get(word, '')}"

    def made(self):
        side = self.pick([1, 2, 2, 3])
        new, team, room = self.new(), self.name("team"), self.name("room")
        return self.pick([
            f"team {new} {self.table(side, side)} {self.table(side, side)}", f"team {new} {self.table(2, 3)} {self.table(2, 3)}",
            f"pattern {new} 2 2 00 {self.pick(['11', '01', '00'])}", f"pairs {new} {self.row(2)}:{self.row(2)} {self.row(2)}:{self.row(2)}",
            f"signs {new}", f"upright {new} {team}", f"without {new} {team} {self.draw.count(0, 2)}", f"with {new} {team} {self.table(2, 2)}",
            f"beside {new} {team} {self.name('team')}", f"letters {new} {team} {self.table(2, 2)} {self.table(2, 2)}",
            f"remixed {new} {team} {self.row(2)} {self.row(2)}", f"behind {new} {room}", f"within {new} {room}",
            f"room {new} {team} {self.row(2)}", f"room {new} {team}", f"room {new} {team} {self.row(3)} {self.row(3)}",
            f"room {new} {team} 1,0 1,1", f"least {new} {team}", f"greatest {new} {team}", f"lossy {new} {team}",
            f"joined {new} {room} {self.name('room')}", f"shared {new} {room} {self.name('room')}",
            f"helpers {new} {team} {self.row(2)} {self.row(2)}", f"free {new} {team}"])

    def done(self):
        draw = self.draw
        return self.pick([f"entry {self.name('team')} {draw.count(0, 2)} {draw.count(0, 2)} {draw.count(0, 2)} {self.pick(FEW)}",
                          f"drop {self.name()}", self.claim(), self.claim(), f"forget {self.pick(LABELS)}"])

    def told(self):
        one = self.name()
        of_team, of_room = self.pick("lack plain three blocks slopes".split()), self.pick(["loss", "made"])
        return self.pick([f"show {one}", f"size {one}", f"{of_team} {self.name('team')}", f"{of_room} {self.name('room')}",
                          f"rank {self.name('helpers')}", f"same {one} {self.name()}", f"same {self.name('room')} {self.name('room')}",
                          "names", "states", f"state {self.pick(LABELS)}", f"claimed {self.pick(LABELS)}"])

    def one(self):
        return self.pick([self.made, self.made, self.done, self.done, self.told, lambda: self.pick(["undo", "redo"])])()


def tried(doer, command):
    """The answer, or the error with its class and attributes."""
    try:
        return doer.do(command)
    except (RoomError, MissingError, StateError, LimitError) as error:
        return error.__class__.__name__, repr(vars(error))


class Drawn(Case):
    def test_against_the_model(self):
        draw = Draw(300)
        seen = set()
        for _ in range(40):
            desk, model = Desk(), Model()
            for _ in range(120):
                command = Commands(draw, model.things).one()
                ahead = (desk.names, desk.labels, desk.lines(), len(desk))
                found, told = tried(desk, command), tried(model, command)
                self.assertEqual(found, told, command)
                if isinstance(found, tuple):
                    seen.add(found[0])
                    self.assertEqual((desk.names, desk.labels, desk.lines(), len(desk)), ahead)
                else:
                    seen.add(command.split(" ")[0])
                self.assertEqual(desk.lines(), model.lines)
                self.assertEqual({name: desk[name] for name in desk.names}, model.things)
                self.assertEqual(desk.labels, sorted(model.notes))
        self.assertLessEqual({"NameTaken", "LabelTaken", "UnknownName", "UnknownLabel", "NothingToUndo", "NothingToRedo", "InvalidClaim",
                              "InvalidPlace", "InvalidRoom", "UnlikeTeams", "InvalidHelpers", "UnlikeMany", "NotFull", "TooMany",
                              "InvalidLetters", "InvalidNumbers", "InvalidTable", "NothingLeft"}, seen)
        self.assertLessEqual(set("team pattern pairs signs upright without with beside letters remixed behind within room least greatest lossy "
                                 "joined shared helpers free entry drop claim forget undo redo state states claimed names show size lack plain "
                                 "three loss made rank blocks slopes same".split()), seen)


if __name__ == "__main__":
    unittest.main()
