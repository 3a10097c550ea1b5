"""Papers that a desk keeps with labels: what is attached, and whether it fits as things are now."""

import unittest

from shrunkrooms.claims import contrary, is_paper_of, paper_of
from shrunkrooms.desk import Desk, Trial
from shrunkrooms.errors import InvalidPaper
from shrunkrooms.ratios import Ratio
from tests.desk_model import Model
from tests.test_desk import Commands, ground, tried
from tests.test_desk_errors import DeskCase
from tests.tools import STRANGE, Draw, other_kinds, tupled

ALL = [[1, 0], [0, 1]]
ONES = [[[1]], [[1]]]
UNDOES = [[[1, 0], [0, 1]], [[0, 1], [1, 1]]]


def lost_desk():
    """A desk with a claim about a team that is not full."""
    desk = Desk()
    desk.do_all("team t 1,0;0,0 0,1;0,0", "claim k full t")
    return desk


class Attached(DeskCase):
    def test_papers_of_claims_and_contraries(self):
        desk = ground()
        for words in ("lacks t 1", "lacks t 2", "keeps t 1", "keeps w 2", "full t", "full s", "shrunk t", "shrunk c", "most r", "most a", "less r",
                      "simple s", "simple c", "falls c", "falls s", "fair w 1 1", "fair w 2 1", "unfair w 1 1", "unfair s 2 2", "fades t", "fades c",
                      "lasts t", "lasts s"):
            desk.do(f"claim k {words}")
            claim = desk.claim_of("k")
            paper = paper_of(claim)
            if paper is None:
                paper = paper_of(contrary(claim))
            self.assertIs(desk.fits("k"), False, words)
            self.assertIsNone(desk.attach("k", paper))
            self.assertIs(desk.fits("k"), True)
            self.assertIs(desk.fits(label="k"), True)
            self.assertIsNone(desk.attach(paper=paper, label="k"))
            if not isinstance(paper, tuple):
                for other in (tupled(paper), other_kinds(paper)):
                    desk.attach("k", other)
                    self.assertIs(desk.fits("k"), True)
            self.fails_value(InvalidPaper, None, desk.attach, "k", None)
            self.assertIs(desk.fits("k"), True)
            desk.do("forget k")

    def test_no_deeds(self):
        desk = lost_desk()
        ahead = self.stand(desk)
        desk.do("undo")
        desk.do("redo")
        desk.attach("k", ALL)
        self.assertEqual(self.stand(desk)[:-1], ahead[:-1])
        self.assertEqual(desk.do("undo"), "claim k full t")

    def test_values_that_are_none(self):
        desk = lost_desk()
        for value in STRANGE + [[], (), 0, 1, Ratio(1), [[1, 0]], [[1]], [[0, 1]], ONES, UNDOES, [[True, 0], [0, 1]], (ALL,), [ALL], ALL + [[1, 1]],
                                [[1, 0], [2, 0]], "k", desk, ("full", desk["t"])]:
            self.fails_value(InvalidPaper, value, desk.attach, "k", value)
            self.assertIs(desk.fits("k"), False)
        desk.attach("k", ALL)
        self.fails_value(InvalidPaper, ONES, desk.attach, "k", ONES)
        # What was kept stays.
        self.assertIs(desk.fits("k"), True)

    def test_while_the_state_is_gone(self):
        desk = lost_desk()
        desk.do("drop t")
        for value in (ALL, None, UNDOES):
            self.fails_value(InvalidPaper, value, desk.attach, "k", value)
        self.assertIs(desk.fits("k"), False)

    def test_what_is_attached_is_a_copy(self):
        desk = lost_desk()
        paper = [[1, 0], [0, 1]]
        desk.attach("k", paper)
        paper[0][0] = 0
        paper.pop()
        self.assertIs(desk.fits("k"), True)
        one = ([[1, 0], [0, 1]], [[1, 0], [0, 1]], [1, -1], [0, 0])
        desk.do("claim f fades t")
        desk.attach("f", one)
        one[0][0].clear()
        one[2][0] = 9
        self.assertIs(desk.fits("f"), True)

    def test_each_label_has_its_own(self):
        desk = lost_desk()
        desk.do("claim l shrunk t")
        desk.attach("k", ALL)
        self.assertEqual([desk.fits("k"), desk.fits("l")], [True, False])
        desk.attach("l", ALL)
        desk.do("drop t")
        desk.do("team t 1,0;0,0 0,1;0,1")
        self.assertEqual([desk.fits("k"), desk.fits("l")], [False, False])
        desk.attach("l", [[[1]], [[1]]])
        self.assertEqual([desk.fits("k"), desk.fits("l")], [False, True])


class Fits(DeskCase):
    def test_as_things_are_now(self):
        desk = lost_desk()
        desk.attach("k", ALL)
        self.assertEqual([desk.do("entry t 1 1 1 1"), desk.fits("k")], ["k true", False])
        # It was kept as a paper of the contrary: of the claim itself it is none, and others are.
        self.assertEqual([desk.do("undo"), desk.fits("k")], ["entry t 1 1 1 1", True])
        self.assertEqual([desk.do("redo"), desk.fits("k")], ["entry t 1 1 1 1", False])
        desk.attach("k", ONES)
        self.assertIs(desk.fits("k"), True)
        self.assertEqual([desk.do("undo"), desk.fits("k")], ["entry t 1 1 1 1", False])
        self.assertEqual([desk.do("redo"), desk.fits("k")], ["entry t 1 1 1 1", True])

    def test_the_thing_is_dropped_and_kept_anew(self):
        desk = lost_desk()
        desk.attach("k", ALL)
        for command, told in [("drop t", False), ("undo", True), ("redo", False), ("signs t", False), ("drop t", False),
                              ("team t 0,0;0,0", True), ("drop t", False), ("team t 0", False), ("drop t", False), ("team t 1,0", False), ("drop t", False),
                              ("signs s", False), ("room t s", False), ("drop t", False), ("free t s", False), ("drop t", False),
                              ("team t 2,1;4,2", True), ("upright u t", True), ("entry u 0 0 0 9", True), ("entry t 0 0 0 9", False)]:
            desk.do(command)
            self.assertIs(desk.fits("k"), told, command)

    def test_the_label_is_forgotten_and_noted_again(self):
        desk = lost_desk()
        desk.do("upright u t")
        desk.attach("k", ALL)
        desk.do("forget k")
        with self.assertRaises(LookupError):
            desk.fits("k")
        # By other words it is not kept for these; by the same ones it is there still.
        for words, told in [("shrunk t", False), ("full u", False), ("full t", True), ("lacks t 1", False), ("full t", True), ("fades t", False)]:
            desk.do(f"claim k {words}")
            self.assertIs(desk.fits("k"), told, words)
            desk.do("forget k")
        desk.do("claim k full t")
        self.assertIs(desk.fits("k"), True)
        desk.do_all("undo", "undo")
        self.assertEqual([desk.do("states"), desk.fits("k")], ["k true", False])
        self.assertEqual(desk.do("claimed k"), "fades t")
        desk.do("redo")
        desk.do("redo")
        self.assertIs(desk.fits("k"), True)

    def test_counts_are_words(self):
        desk = Desk()
        desk.do_all("team t 0,0;0,0", "claim k lacks t 2")
        desk.attach("k", ALL)
        desk.do_all("forget k", "claim k lacks t 1")
        self.assertIs(desk.fits("k"), False)
        desk.do_all("forget k", "claim k lacks t 2")
        self.assertIs(desk.fits("k"), True)

    def test_another_one_takes_its_place(self):
        desk = lost_desk()
        desk.attach("k", ALL)
        desk.do_all("forget k", "claim k shrunk t")
        self.assertIs(desk.fits("k"), False)
        desk.attach("k", ALL)
        self.assertIs(desk.fits("k"), True)
        desk.do_all("forget k", "claim k full t")
        self.assertIs(desk.fits("k"), False)

    def test_through_undo_and_redo(self):
        desk = lost_desk()
        desk.do("signs s")
        desk.attach("k", ALL)
        desk.do_all("undo", "undo")
        self.assertEqual(desk.labels, [])
        desk.do("redo")
        self.assertIs(desk.fits("k"), True)
        desk.do_all("undo", "undo", "redo", "redo", "redo")
        self.assertIs(desk.fits("k"), True)

    def test_trials_and_attempts(self):
        desk = lost_desk()
        with Trial(desk):
            desk.attach("k", ALL)
            self.assertIs(desk.fits("k"), True)
        self.assertIs(desk.fits("k"), False)
        desk.attach("k", ALL)
        with Trial(desk):
            desk.do("entry t 1 1 1 1")
            desk.attach("k", ONES)
            desk.do("undo")
            self.assertIs(desk.fits("k"), False)
        self.assertIs(desk.fits("k"), True)
        desk.attempt("drop t", "forget k")
        self.assertIs(desk.fits("k"), True)

    def test_drawn_deeds(self):
        draw = Draw(320)
        seen = set()
        for _ in range(12):
            desk, model, kept = Desk(), Model(), {}
            for _ in range(80):
                command = Commands(draw, model.things).one()
                self.assertEqual(tried(desk, command), tried(model, command))
                for label in desk.labels:
                    claim = desk.claim_of(label)
                    told = claim is not None and label in kept and kept[label][0] == model.notes[label]
                    told = told and is_paper_of(claim if claim[0] == kept[label][1] else contrary(claim), kept[label][2])
                    self.assertIs(desk.fits(label), told)
                    seen.add((label in kept, told))
                    if claim is not None and draw.count(1, 4) == 1:
                        claim = claim if paper_of(claim) is not None else contrary(claim)
                        desk.attach(label, paper_of(claim))
                        kept[label] = (model.notes[label], claim[0], paper_of(claim))
        self.assertEqual(seen, {(False, False), (True, False), (True, True)})


if __name__ == "__main__":
    unittest.main()
