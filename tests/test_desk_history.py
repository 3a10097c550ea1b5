"""A desk through time: undo and redo, several commands at once, trials, copies, and what is done again from lines."""

import unittest

from shrunkrooms.desk import Desk, Trial, tried
from shrunkrooms.errors import CommandFailed, InvalidCommand, InvalidLines, InvalidPlace, NameTaken, NothingToRedo, UnknownName
from shrunkrooms.ratios import Ratio
from tests.desk_model import Model
from tests.test_commands import NO_STRINGS
from tests.test_desk import GROUND, LOST, Commands, ground
from tests.test_desk import tried as told_or_error
from tests.test_desk_errors import DeskCase
from tests.tools import STRANGE, Draw

MANY = ["team t 1,0;0,0 0,1;0,0", "claim k shrunk t", "least r t", "claim l most r", "room s t 1,1", "joined j r s", "entry t 1 1 0 1",
        "claim f fair t 1 1", "drop t", "forget k", "signs t", "claim k simple t", "free h t", "upright u t", "drop r", "room r t 1,0,0"]


class UndoAndRedo(DeskCase):
    def test_through_many_deeds(self):
        desk, stands = Desk(), []
        for line in MANY:
            stands.append(self.stand(desk))
            desk.do(line)
        stands.append(self.stand(desk))
        for _ in range(2):
            for at in reversed(range(len(MANY))):
                self.assertEqual(desk.do("undo"), MANY[at])
                self.assertEqual(self.stand(desk), stands[at])
            for at in range(len(MANY)):
                self.assertEqual(desk.do("redo"), MANY[at])
                self.assertEqual(self.stand(desk), stands[at + 1])
        self.assertEqual(desk.lines(), MANY)

    def test_drawn_deeds(self):
        draw = Draw(310)
        for _ in range(10):
            desk, model, stands = Desk(), Model(), []
            stands.append(self.stand(desk))
            while len(desk) < 25:
                command = Commands(draw, model.things).one()
                if command not in ("undo", "redo"):
                    told_or_error(model, command)
                    if not isinstance(told_or_error(desk, command), tuple) and len(desk) == len(stands):
                        stands.append(self.stand(desk))
            lines = desk.lines()
            for at in reversed(range(25)):
                self.assertEqual(desk.do("undo"), lines[at])
                self.assertEqual(self.stand(desk), stands[at])
            for at in range(25):
                self.assertEqual(desk.do("redo"), lines[at])
            self.assertEqual(self.stand(desk), stands[25])

    def test_a_new_deed_takes_away_what_could_be_done_again(self):
        for line in ("signs s", "drop t", "claim k full t", "entry t 0 0 0 5", "forget m"):
            desk = Desk()
            desk.do_all("team t 1", "claim m full t", "signs x", "undo", line)
            self.fails(NothingToRedo, {}, desk.do, "redo")
            self.assertEqual(desk.lines(), ["team t 1", "claim m full t", line])

    def test_what_takes_nothing_away(self):
        desk = Desk()
        desk.do_all("team t 1", "claim m full t", "signs x", "undo")
        desk.do_all("states", "names", "show t", "state m", "claimed m", "lack t", "same t t")
        for command in ("drop x", "signs t", "entry t 9 9 9 1", "x", "lack x", "claim m full t"):
            self.assertIsInstance(told_or_error(desk, command), tuple)
        desk.attach("m", [[[1]]])
        with Trial(desk):
            desk.do("drop t")
        desk.attempt("drop t", "signs y")
        self.assertEqual(desk.do("redo"), "signs x")
        self.assertEqual(desk.lines(), ["team t 1", "claim m full t", "signs x"])

    def test_no_deeds_are_counted(self):
        desk = ground()
        desk.do_all("names", "undo", "redo", "states", "show t")
        self.assertEqual((len(desk), desk.lines()), (10, GROUND))
        desk.do("undo")
        self.assertEqual((len(desk), desk.lines()), (9, GROUND[:-1]))


class Several(DeskCase):
    def test_all_or_none(self):
        desk = ground()
        ahead = self.stand(desk)
        for at in range(4):
            commands = ["claim k full s", "drop s", "undo", "signs x"]
            commands.insert(at, "drop y")
            with self.assertRaises(CommandFailed) as held:
                desk.do_all(*commands)
            self.assertEqual(held.exception.position, at)
            self.assertIs(held.exception.__cause__.__class__, UnknownName)
            self.assertEqual(held.exception.__cause__.value, "y")
            self.assertEqual(self.stand(desk), ahead)
        self.assertEqual(desk.do_all("claim k full s", "drop s", "undo", "signs x", "states"), ["k true", "k gone", "drop s", "-", "k true"])
        self.assertEqual(desk.lines(), GROUND + ["claim k full s", "signs x"])
        self.assertEqual(desk.do_all(), [])

    def test_taken_back_deeds_stay_if_one_fails(self):
        desk = ground()
        desk.do("undo")
        for commands in (["undo", "undo", "drop y"], ["redo", "signs x", "drop y"], ["signs x", "redo"]):
            with self.assertRaises(CommandFailed) as held:
                desk.do_all(*commands)
            self.assertEqual(held.exception.position, len(commands) - 1)
            self.assertEqual(desk.lines(), GROUND[:-1])
        self.assertEqual(desk.do("redo"), GROUND[-1])

    def test_wrong_values(self):
        desk = Desk()
        for value in NO_STRINGS + ["x"]:
            for way in (desk.do_all, desk.attempt):
                with self.assertRaises(CommandFailed) as held:
                    way("signs s", "names", value, "y")
                self.assertEqual(held.exception.position, 2)
                self.assertIs(held.exception.__cause__.__class__, InvalidCommand)
                self.assertIs(held.exception.__cause__.value, value)
        self.assertEqual(desk.names, [])

    def test_attempt(self):
        desk = ground()
        ahead = self.stand(desk)
        self.assertEqual(desk.attempt("claim k shrunk t", "entry t 1 1 0 1", "drop w", "names", "undo", "undo", "state k"),
                         ["k true", "k false", "-", "a c g h n q r s t", "drop w", "entry t 1 1 0 1", "true"])
        self.assertEqual(self.stand(desk), ahead)
        self.assertEqual(desk.attempt(), [])
        for at, commands in [(0, ["drop y"]), (1, ["drop t", "drop t"]), (2, ["undo", "redo", "redo"])]:
            with self.assertRaises(CommandFailed) as held:
                desk.attempt(*commands)
            self.assertEqual(held.exception.position, at)
            self.assertEqual(self.stand(desk), ahead)
        desk.do("undo")
        desk.attempt("signs x")
        self.assertEqual(desk.do("redo"), GROUND[-1])


class Trials(DeskCase):
    def test_behind_the_block_all_is_as_it_was(self):
        desk = ground()
        desk.do_all("claim k full t", "undo", "claim k shrunk t")
        desk.attach("k", [[1, 0], [0, 1]])
        ahead = self.stand(desk)
        trial = Trial(desk)
        for _ in range(2):
            with trial as held:
                self.assertIs(held, desk)
                self.assertEqual(held.do_all("drop t", "undo", "entry t 1 1 0 1", "signs x"), ["k gone", "drop t", "k false", "-"])
                held.attach("k", [[[1, 0], [0, 1]], [[0, 1], [1, 1]]])
                self.assertIs(desk.fits("k"), True)
                self.assertEqual(len(desk), 13)
            self.assertEqual(self.stand(desk), ahead)
            self.assertIs(desk.fits("k"), True)

    def test_errors_go_on(self):
        desk = ground()
        ahead = self.stand(desk)
        for error in (ValueError("x"), KeyError("y"), RuntimeError(), KeyboardInterrupt()):
            with self.assertRaises(error.__class__) as held:
                with Trial(desk) as same:
                    same.do("drop t")
                    raise error
            self.assertIs(held.exception, error)
            self.assertEqual(self.stand(desk), ahead)
        with self.assertRaises(NameTaken):
            with Trial(desk=desk):
                desk.do("drop t")
                desk.do("signs w")
        self.assertEqual(self.stand(desk), ahead)

    def test_what_can_be_done_again(self):
        desk = ground()
        desk.do("undo")
        with Trial(desk):
            desk.do("redo")
            desk.do("undo")
            desk.do("signs x")
        self.assertEqual(desk.do("redo"), GROUND[-1])
        with Trial(desk):
            desk.do_all(*["undo"] * 10)
        self.assertEqual(desk.lines(), GROUND)

    def test_one_within_another(self):
        desk = ground()
        ahead = self.stand(desk)
        with Trial(desk):
            desk.do("drop t")
            between = self.stand(desk)
            with Trial(desk):
                desk.do("drop w")
            self.assertEqual(self.stand(desk), between)
        self.assertEqual(self.stand(desk), ahead)

    def test_changed_between_trial_and_block(self):
        desk = ground()
        trial = Trial(desk)
        desk.do("drop t")
        ahead = self.stand(desk)
        with trial:
            desk.do("drop w")
        self.assertEqual(self.stand(desk), ahead)

    def test_tried(self):
        desk = ground()
        ahead = self.stand(desk)
        self.assertEqual(tried(desk, lambda held: held.do_all("drop t", "names")), ["-", "a c g h n q r s w"])
        self.assertEqual(self.stand(desk), ahead)
        self.assertIs(tried(action=lambda held: held, desk=desk), desk)
        self.assertIsNone(tried(desk, lambda held: None))
        self.assertEqual(tried(desk, len), 10)
        self.assertEqual(tried(desk, Desk.lines), GROUND)
        for error in (ValueError("x"), ZeroDivisionError()):
            def action(held):
                held.do("drop t")
                raise error
            with self.assertRaises(error.__class__) as held:
                tried(desk, action)
            self.assertIs(held.exception, error)
            self.assertEqual(self.stand(desk), ahead)
        with self.assertRaises(InvalidPlace):
            tried(desk, lambda held: [held.do("drop w"), held.do("entry t 9 0 0 1")])
        self.assertEqual(self.stand(desk), ahead)


class Copies(DeskCase):
    def test_go_on_by_themselves(self):
        desk = ground()
        desk.do_all("claim k shrunk t", "signs x", "undo")
        desk.attach("k", [[1, 0], [0, 1]])
        other = desk.copy()
        self.assertIs(other.__class__, Desk)
        self.assertIsNot(other, desk)
        self.assertEqual(self.stand(other), self.stand(desk))
        self.assertIs(other.fits("k"), True)
        ahead = self.stand(desk)
        other.do_all("redo", "entry t 1 1 0 1", "drop w")
        other.attach("k", [[[1, 0], [0, 1]], [[0, 1], [1, 1]]])
        self.assertEqual(self.stand(desk), ahead)
        self.assertEqual(desk.do("redo"), "signs x")
        self.assertIs(desk.fits("k"), True)
        desk.do_all(*["undo"] * 12)
        self.assertEqual(desk.names, [])
        self.assertEqual((len(other), other.do("state k"), other.fits("k")), (14, "false", True))
        third = other.copy()
        self.assertEqual(third.do("undo"), "drop w")
        self.assertEqual(other.do("undo"), "drop w")
        self.assertEqual(self.stand(third), self.stand(other))

    def test_copies_are_no_deeds(self):
        desk = Desk()
        self.assertEqual((len(desk.copy()), desk.copy().lines()), (0, []))


class Lines(DeskCase):
    def test_again(self):
        desk = Desk()
        desk.do_all(*MANY, "undo", "undo")
        found = Desk.again(desk.lines())
        self.assertIs(found.__class__, Desk)
        self.assertEqual(self.stand(found), self.stand(desk))
        self.assertEqual(found.lines(), MANY[:-2])
        # Only the deeds are done again: nothing is there that was taken back, and no paper.
        self.fails(NothingToRedo, {}, found.do, "redo")
        self.assertEqual(self.stand(Desk.again(lines=tuple(MANY))), self.stand(Desk.again(MANY)))
        for empty in ([], ()):
            self.assertEqual((len(Desk.again(empty)), Desk.again(empty).names), (0, []))
        lines = list(MANY)
        Desk.again(lines)
        self.assertEqual(lines, MANY)

    def test_papers_are_not_in_the_lines(self):
        desk = Desk()
        desk.do_all("team t 1,0;0,0 0,1;0,0", "claim k shrunk t")
        desk.attach("k", [[1, 0], [0, 1]])
        self.assertIs(Desk.again(desk.lines()).fits("k"), False)

    def test_no_lists(self):
        for value in STRANGE + ["signs s", 0, 1, Ratio(1), {"signs s": 1}, Desk(), b"signs s"]:
            self.fails(InvalidLines, {"position": None}, Desk.again, value)
            self.fails(InvalidLines, {"position": None}, Desk.again, lines=value)

    def test_no_deeds(self):
        for value in NO_STRINGS + ["", "x", "undo", "redo", "names", "show s", "states", "state k", "signs", "signs s ", "lack s", "same s s", "team t 1,0;0"]:
            for at in range(3):
                lines = ["signs s", "drop s", "drop s"]
                lines.insert(at, value)
                # The last line fails; but whether all are deeds comes ahead, and the first one that is none counts.
                self.fails(InvalidLines, {"position": at}, Desk.again, lines + [None])
                self.fails(InvalidLines, {"position": at}, Desk.again, tuple(lines))

    def test_deeds_that_fail(self):
        for lines, at in [(["drop s"], 0), (["signs s", "signs s"], 1), (["signs s", "drop s", "drop s", "drop s"], 2),
                          (["signs s", "claim k full s", "claim l lacks s 4"], 2)]:
            self.fails(CommandFailed, {"position": at}, Desk.again, lines)
            with self.assertRaises(CommandFailed) as held:
                Desk.again(lines=tuple(lines))
            self.assertIsNotNone(held.exception.__cause__)

    def test_lines_are_those_that_were_passed(self):
        desk = Desk()
        desk.do("team t 1/2,-3")
        self.assertEqual(desk.lines(), ["team t 1/2,-3"])
        desk.lines().append("signs s")
        self.assertEqual((desk.lines(), len(desk)), (["team t 1/2,-3"], 1))


class States(DeskCase):
    def test_told_where_they_change(self):
        desk = Desk()
        for command, told in [
                ("team t 1,0;0,0 0,1;0,0", "-"), ("claim k shrunk t", "k true"), ("claim a full t", "a false"), ("claim b lacks t 1", "b true"),
                ("claim c lacks t 2", "c false"), ("room r t 1,0 0,1", "-"), ("claim m most r", "m true"), ("states", "a false, b true, c false, k true, m true"),
                ("entry t 1 1 0 1", "a true, b false, k false"), ("state m", "true"), ("undo", "entry t 1 1 0 1"), ("state a", "false"),
                ("redo", "entry t 1 1 0 1"), ("states", "a true, b false, c false, k false, m true"), ("drop t", "a gone, b gone, c gone, k gone"),
                ("signs s", "-"), ("room t s 1,0,0", "-"), ("states", "a gone, b gone, c gone, k gone, m true"), ("drop t", "-"),
                ("upright t s", "a true, b false, c false, k false"), ("forget k", "-"), ("claim k shrunk t", "k false"), ("drop r", "m gone"),
                ("helpers r s 1 1 1", "-"), ("drop r", "-"), ("room r s", "m true"), ("drop s", "-"), ("entry t 0 0 0 1", "-"), ("drop t", "a gone, b gone, c gone, k gone"),
                ("team t 0", "a false, b true, k true"), ("states", "a false, b true, c gone, k true, m true"), ("claimed c", "lacks t 2")]:
            self.assertEqual(desk.do(command), told, command)

    def test_each_line_of_claims(self):
        desk = ground()
        desk.do_all("room e s", "room f c 1,0")
        for words, told in [("lacks t 1", "true"), ("lacks t 2", "false"), ("keeps t 1", "false"), ("keeps t 2", "true"), ("full t", "false"), ("full s", "true"),
                            ("shrunk t", "true"), ("shrunk c", "false"), ("most r", "false"), ("most a", "true"), ("less r", "true"), ("less e", "false"),
                            ("most f", "true"), ("simple s", "true"), ("simple c", "false"), ("falls c", "true"), ("falls s", "false"), ("fair w 1 1", "false"),
                            ("fair w 2 1", "true"), ("unfair w 1 1", "true"), ("unfair s 1 1", "false"), ("fades t", "true"), ("fades s", "false"),
                            ("lasts t", "false"), ("lasts c", "true")]:
            self.assertEqual(desk.attempt(f"claim k {words}", "state k", "claimed k"), [f"k {told}", told, words])

    def test_sorted(self):
        desk = Desk()
        desk.do("signs t")
        for label in ("z", "b", "b2", "a9", "m"):
            desk.do(f"claim {label} full t")
        self.assertEqual(desk.do("drop t"), "a9 gone, b gone, b2 gone, m gone, z gone")
        self.assertEqual(desk.labels, ["a9", "b", "b2", "m", "z"])
        self.assertEqual(desk.do("undo"), "drop t")
        self.assertEqual(desk.do("states"), "a9 true, b true, b2 true, m true, z true")

    def test_a_room_stays_of_its_team(self):
        desk = Desk()
        desk.do_all("team t 1,0;0,0 0,1;0,0", "room r t 1,0 0,1", "claim m most r")
        self.assertEqual(desk.do_all("entry t 1 1 0 1", "drop t", "signs t", "state m"), ["-", "-", "-", "true"])
        self.assertEqual(desk.claim_of("m")[1], LOST)


if __name__ == "__main__":
    unittest.main()
