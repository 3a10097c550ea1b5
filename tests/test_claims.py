"""Claims, their contraries, and papers that show them."""

import unittest

from shrunkrooms.alike import alike
from shrunkrooms.blocks import is_simple
from shrunkrooms.claims import contrary, is_claim, is_paper_of, is_true, paper_of, words
from shrunkrooms.errors import InvalidClaim
from shrunkrooms.fading import fading, is_fading
from shrunkrooms.fair import fair_helpers, is_fair, is_fair_helpers, is_unfair_room
from shrunkrooms.helpers import crossed_rank, is_helpers, sides
from shrunkrooms.lacks import free_helpers, is_free_helpers, is_loss_room, lack, loss_room
from shrunkrooms.makers import sign_team
from shrunkrooms.most import greatest_room, least_room
from shrunkrooms.ratios import Ratio
from shrunkrooms.staying import is_staying
from shrunkrooms.teams import Team, is_room, loss, made
from shrunkrooms.tight import tight_room
from tests.drawn_teams import NO_TEAMS, SIMPLE, draw_team, full_teams, in_drawn_letters, lossy_team, stacked, teams
from tests.test_helpers import NO_HELPERS
from tests.tools import NO_COUNTS, NO_LISTS, NO_TABLES, STRANGE, Case, Draw, digits_in, lists_in, other_kinds, tupled, unit

LINES = [("lacks", "keeps"), ("full", "shrunk"), ("most", "less"), ("simple", "falls"), ("fair", "unfair"), ("fades", "lasts")]
OTHER = {**dict(LINES), **{second: first for first, second in LINES}}
LOST = Team([[[1, 0], [0, 0]], [[0, 1], [0, 0]]])
ONE = [[1, 0], [0, 1]]


def claim_teams():
    draw = Draw(280)
    found = teams()[::2] + [sign_team(), LOST, Team([ONE]), Team([[[0]]]), Team([[[2]]]), Team([unit(4)]), Team([[[0] * 4] * 4])]
    found += [Team(tables) for size in (1, 2, 3) for tables in SIMPLE[size][:2]]
    found += [team for team, _, _, _ in list(full_teams(281))[::3]]
    for side in (1, 2, 3, 4):
        found += [lossy_team(draw, draw.count(1, 4), side, side), draw_team(draw, None, side, side)]
    for tall, wide in ((1, 2), (2, 1), (2, 3), (3, 2), (4, 3), (3, 4), (1, 4), (4, 1)):
        found += [lossy_team(draw, 3, tall, wide), draw_team(draw, 2, tall, wide)]
    return found


TEAMS = claim_teams()


def rooms_of(draw, team):
    """Rooms of the team, most shrunk ones among them, told by steps, by other rows, and by tuples."""
    found = draw.rooms(team.wide)[::2] + [least_room(team), greatest_room(team), []]
    return found + [tupled(draw.rooms(team.wide)[-1]), other_kinds(least_room(team))]


def claims_of(draw, team):
    """For each line and all parts that it lets the first claim of the line."""
    found = [("lacks", team, many) for many in range(1, team.wide + 1)]
    found += [("most", team, room) for room in rooms_of(draw, team)]
    if team.tall == team.wide:
        found += [("full", team), ("fades", team)] + ([("simple", team)] if team.wide < 4 else [])
    if team.tall < 4 and team.wide < 4:
        found += [("fair", team, many, times) for many in (1, 2, 3) for times in (1, 2, 3)]
    return found


def all_claims(seed, step=1):
    draw = Draw(seed)
    for team in TEAMS[::step]:
        yield from claims_of(draw, team)


def first_is_true(claim):
    """By the words of the table."""
    word, team, *parts = claim
    if word == "lacks":
        return lack(team) >= parts[0]
    if word == "full":
        return lack(team) == 0
    if word == "most":
        return len(parts[0]) - len(made(team, parts[0])) == lack(team)
    if word == "simple":
        return is_simple(team)
    return is_fair(team, *parts) if word == "fair" else lack(team) > 0


def is_paper_by_the_table(claim, value):
    """By the words of the table, for helpers and rooms."""
    word, team, *parts = claim
    if word in ("keeps", "full", "most"):
        if not is_helpers(team, value) or sides(team, value)[0] != sides(team, value)[1]:
            return False
        k, rank = len(value[0]), crossed_rank(team, value)
        if word == "keeps":
            return rank >= k * (team.wide + 1 - parts[0])
        return rank == k * (team.wide if word == "full" else team.wide - loss(team, parts[0]))
    if word in ("lacks", "shrunk", "less", "falls"):
        if not is_room(team, value):
            return False
        lost = len(value) - len(made(team, value))
        if word == "falls":
            return len(value) > 0 and lost >= 0 and (len(value) < team.wide or lost > 0)
        return lost >= parts[0] if word == "lacks" else lost > (loss(team, parts[0]) if word == "less" else 0)
    if word == "simple":
        return is_simple(team) and isinstance(value, (list, tuple)) and len(value) == 2 and (
            all(is_room(team, room) for room in value) and (len(value[0]), len(value[1])) == (0, team.wide))
    if word == "fair":
        return is_fair_helpers(team, *parts, value)
    if word == "unfair":
        return is_unfair_room(team, *parts, value)
    return is_fading(team, value) if word == "fades" else is_staying(team, value)


class Words(Case):
    def test_words(self):
        self.assertEqual(self.told(words), LINES)
        self.assertIs(words().__class__, list)
        for line in words():
            self.assertIs(line.__class__, tuple)
        words().append(("x", "y"))
        self.assertEqual(words(), LINES)


class IsClaim(Case):
    def test_claims(self):
        for claim in all_claims(282):
            for word in (claim[0], OTHER[claim[0]]):
                value = (word,) + claim[1:]
                self.assertIs(self.told(is_claim, value), True)
                self.assertIs(is_claim(value=value), True)

    def test_counts_beyond_their_bounds(self):
        for team in TEAMS[::2]:
            for word in ("lacks", "keeps"):
                for value in NO_COUNTS + [0, team.wide + 1, 10 ** 29, -1]:
                    self.assertIs(is_claim((word, team, value)), False, value)
            for word in ("fair", "unfair"):
                fits = team.tall < 4 and team.wide < 4
                for value in NO_COUNTS + [0, 4, 10 ** 29]:
                    self.assertIs(is_claim((word, team, value, 1)), False)
                    self.assertIs(is_claim((word, team, 1, value)), False)
                self.assertIs(is_claim((word, team, 3, 1)), fits)
                self.assertIs(is_claim((word, team, 1, 3)), fits)

    def test_sides(self):
        for tall in (1, 2, 3, 4):
            for wide in (1, 2, 3, 4):
                team = Team([[[1] * wide] * tall])
                for word in ("full", "shrunk", "fades", "lasts"):
                    self.assertIs(is_claim((word, team)), tall == wide)
                for word in ("simple", "falls"):
                    self.assertIs(is_claim((word, team)), tall == wide < 4)
                for word in ("fair", "unfair"):
                    self.assertIs(is_claim((word, team, 1, 1)), max(tall, wide) < 4)
                for word in ("lacks", "keeps"):
                    self.assertIs(is_claim((word, team, wide)), True)
                    self.assertIs(is_claim((word, team, wide + 1)), False)

    def test_parts_of_other_kinds(self):
        for word in OTHER:
            for parts in [(), (LOST,), (LOST, 1), (LOST, []), (LOST, 1, 1), (LOST, 2, 2, 2), (LOST, [], 1), (LOST, None), (LOST, LOST),
                          (LOST, [[1, 1]]), (LOST, [[1, 1]], [[1, 1]]), (LOST, 1, None)]:
                told = {"lacks": parts[1:] == (1,), "most": parts[1:] in (([],), ([[1, 1]],)), "fair": parts[1:] == (1, 1)}
                first = word if word in dict(LINES) else OTHER[word]
                self.assertIs(is_claim((word,) + parts), len(parts) > 0 and told.get(first, parts == (LOST,)), (word, parts))
                self.assertIs(is_claim([word, *parts]), False)

    def test_no_claims(self):
        for value in STRANGE + NO_LISTS + NO_TABLES + [[], (), ("lacks",), ("full",), "full", ["full", LOST], [("full", LOST)],
                                                       (("full", LOST),), ("Full", LOST), ("full ", LOST), ("", LOST), (LOST, "full"),
                                                       (None, LOST), (True, LOST), (["full"], LOST), (b"full", LOST), ({}, LOST),
                                                       (("full", "shrunk"), LOST), ("full", LOST, ()), ("full", LOST, None),
                                                       {"full": LOST}, LOST, (LOST,), ("full", [LOST]), ("lacks", LOST, [1]),
                                                       (Ratio(1), LOST), ("full", Team), (0, LOST), ("fullshrunk", LOST)]:
            self.assertIs(is_claim(value), False, value)
            for function in (is_true, contrary, paper_of):
                self.fails_value(InvalidClaim, value, function, value)
                self.fails_value(InvalidClaim, value, function, claim=value)
            self.fails_value(InvalidClaim, value, is_paper_of, value, None)
            self.fails(InvalidClaim, {"value": value}, is_paper_of, value=[], claim=value)
        for value in NO_TEAMS:
            for word in OTHER:
                self.assertIs(is_claim((word, value)), False)
                self.assertIs(is_claim((word, value, 1)), False)
                self.assertIs(is_claim((word, value, 1, 1)), False)
                self.assertIs(is_claim((word, value, [])), False)

    def test_no_rooms(self):
        for word in ("most", "less"):
            for value in NO_TABLES + [[[1, 1], [2, 2]], [[0, 0]], [[1]], [[1, 0, 0]], [[True, 0]], unit(3), 1, ([1, 1],) * 2]:
                told = is_room(LOST, value)
                self.assertIs(is_claim((word, LOST, value)), told, value)
                if not told:
                    self.fails_value(InvalidClaim, claim := (word, LOST, value), is_true, claim)
                    self.fails_value(InvalidClaim, claim, contrary, claim)


class Truth(Case):
    def test_both_claims(self):
        seen = set()
        for claim in all_claims(283):
            told = first_is_true(claim)
            other = (OTHER[claim[0]],) + claim[1:]
            self.assertIs(self.told(is_true, claim), told)
            self.assertIs(is_true(claim=other), not told)
            seen.add((claim[0], told))
        self.assertEqual(seen, {(word, told) for word, _ in LINES for told in (True, False)})

    def test_contraries(self):
        for claim in all_claims(284):
            found = self.told(contrary, claim)
            self.assertIs(found.__class__, tuple)
            self.assertEqual(found, (OTHER[claim[0]],) + claim[1:])
            self.assertEqual(repr(found[2:]), repr(claim[2:]))
            self.assertEqual(contrary(claim=found), claim)
            self.assertEqual(repr(contrary(found)), repr(claim))
            held = [id(part) for part in lists_in(claim)]
            self.assertEqual([part for part in lists_in(found) if id(part) in held], [])
            self.assertIs(is_claim(found), True)
        room = ([1, Ratio(0)], (0, 1))
        found = contrary(("most", LOST, room))[2]
        self.assertEqual(repr(found), repr(room))
        self.assertIsNot(found, room)
        self.assertIsNot(found[0], room[0])
        self.assertIsNot(found[1], room[1])

    def test_by_other_rows_and_kinds(self):
        for claim in all_claims(285, 3):
            if claim[0] == "most":
                for room in (other_kinds(claim[2]), tupled(list(claim[2])), [[3 * number for number in row] for row in claim[2]]):
                    self.assertIs(is_true(("most", claim[1], room)), is_true(claim))
                    self.assertEqual(paper_of(("most", claim[1], room)), paper_of(claim))


class Papers(Case):
    def test_just_one_of_both_has_a_paper(self):
        for claim in all_claims(286):
            other = contrary(claim)
            self.assertIs(is_true(claim), not is_true(other))
            for one, contra in ((claim, other), (other, claim)):
                found = self.told(paper_of, one)
                self.assertIs(found is not None, is_true(one))
                if found is not None:
                    self.assertIs(self.told(is_paper_of, one, found), True)
                    self.assertIs(is_paper_of(value=found, claim=one), True)
                    self.assertIs(is_paper_of(contra, found), False)
                    self.assertIs(is_paper_by_the_table(one, found), True)
                    self.assertEqual(paper_of(claim=one), found)
                    self.assertLess(digits_in([part for part in lists_in(found) if not lists_in(part)[1:]]), 2000)
                    if one[0] != "fades":
                        self.assertIs(is_paper_of(one, tupled(found)), True)
                        self.assertIs(is_paper_of(one, other_kinds(found)), True)

    def test_values_as_papers_of_all_claims(self):
        draw = Draw(287)
        for team in TEAMS[::3]:
            values = rooms_of(draw, team) + [loss_room(team), free_helpers(team), unit(team.wide), [[], unit(team.wide)]]
            values += [[[[draw.integer(3) for _ in range(k)] for _ in range(k)] for _ in range(team.many)] for k in (1, 2, 3)]
            values += [[[[1] * 2] * 1] * team.many, [[[0]]] * team.many, None, 0]
            if team.tall == team.wide:
                values.append(fading(team) or None)
            if max(team.tall, team.wide) < 4 and is_fair(team, 3, 2):
                values.append(fair_helpers(team, 3, 2))
            for claim in claims_of(draw, team):
                for value in values:
                    found = is_paper_of(claim, value)
                    self.assertIs(found, is_paper_by_the_table(claim, value), (claim, value))
                    other = is_paper_of(contrary(claim), value)
                    self.assertIs(other, is_paper_by_the_table(contrary(claim), value))
                    self.assertIs(found and other, False)
                    if found:
                        self.assertIs(is_true(claim), True)
                    if other:
                        self.assertIs(is_true(claim), False)

    def test_any_value(self):
        wrong = STRANGE + [0, 1, -1, Ratio(1), "paper", [None], ([],), [1], (1, 2), [[]], [[1], []], [[1, 2, 3, 4, 5]], [[True]],
                           {0: [1]}, [[[[1]]]], ("full", LOST), LOST, [LOST], [[], []], [[], [], []], [[[]]], [[], None], [None, []]]
        for claim in all_claims(288, 6):
            for one in (claim, contrary(claim)):
                for value in wrong:
                    self.assertIs(is_paper_of(one, value), False, (one, value))
        for value in NO_HELPERS:
            for one in (("keeps", LOST, 2), ("most", LOST, ONE), ("lasts", LOST), ("full", LOST), ("fair", LOST, 2, 1)):
                self.assertIs(is_paper_of(one, value), False, (one, value))

    def test_papers_of_nothing_and_all(self):
        signs = sign_team()
        self.assertEqual(paper_of(("simple", signs)), [[], [[Ratio(int(i == j)) for j in range(3)] for i in range(3)]])
        for value, told in [([[], unit(3)], True), (((), tupled(unit(3))), True), ([[], [[1, 1, 1], [0, 1, 1], [0, 0, Ratio(5)]]], True),
                            ([[], unit(3), unit(3)], False), ([[]], False), ([unit(3), []], False), ([[], []], False),
                            ([unit(3)], False), ([[], unit(2)], False), ([[], [[1, 0, 0], [0, 1, 0]]], False), (unit(3), False),
                            ([[], [[1, 0, 0], [0, 1, 0], [1, 1, 0]]], False), ([None, unit(3)], False), ([[], None], False),
                            ([[[1, 0, 0]], unit(3)], False), ({0: [], 1: unit(3)}, False), ([[], [], unit(3)], False)]:
            self.assertIs(is_paper_of(("simple", signs), value), told, value)
            self.assertIs(is_paper_of(("falls", signs), value), False)
        # Where the team is not simple they show nothing.
        for team in (Team([ONE]), LOST, Team([[[0, 0], [0, 0]]])):
            self.assertIs(is_paper_of(("simple", team), [[], ONE]), False)

    def test_falling_teams(self):
        corner = Team([ONE, [[0, 1], [0, 0]]])
        for team, value, told in [(corner, [[1, 0]], True), (corner, [[0, 1]], False), (corner, [], False), (corner, ONE, False),
                                  (LOST, ONE, True), (LOST, [[1, 0]], True), (LOST, [], False), (Team([[[0]]]), [[1]], True),
                                  (Team([[[1]]]), [[1]], False), (Team([[[1]]]), [], False), (sign_team(), [[1, 0, 0]], False),
                                  (sign_team(), unit(3), False), (corner, [[1, 0], [2, 0]], False), (corner, ((Ratio(7), 0),), True)]:
            self.assertIs(is_paper_of(("falls", team), value), told, (team, value))
        for team, _, parts, _ in full_teams(289):
            claim = ("falls", team)
            self.assertIs(is_true(claim), len(parts) > 1)
            self.assertEqual(paper_of(claim), tight_room(team))
        self.assertEqual(paper_of(("falls", LOST)), loss_room(LOST))
        draw = Draw(290)
        team = in_drawn_letters(draw, stacked(draw, [SIMPLE[1][0], SIMPLE[2][0]], True))[0]
        self.assertEqual(len(paper_of(("falls", team))), 1)

    def test_rooms_with_a_loss(self):
        corner, none = Team([ONE, [[0, 1], [0, 0]]]), Team([[[0, 0], [0, 0]]])
        for claim, value, told in [(("shrunk", LOST), [[1, 0]], False), (("shrunk", LOST), [[1, 1]], False), (("shrunk", LOST), ONE, True),
                                   (("shrunk", LOST), [], False), (("shrunk", corner), [[1, 0]], False), (("shrunk", corner), ONE, False),
                                   (("shrunk", none), [[1, 0]], True), (("lacks", none, 1), [[1, 0]], True), (("lacks", none, 2), [[1, 0]], False),
                                   (("lacks", none, 2), ONE, True), (("lacks", LOST, 1), [[1, 0]], False), (("lacks", LOST, 2), ONE, False),
                                   (("less", LOST, [[1, 0]]), ONE, True), (("less", LOST, [[1, 0]]), [[1, 1]], False), (("less", LOST, ONE), ONE, False),
                                   (("less", none, [[1, 0]]), [[0, 1]], False), (("less", none, [[1, 0]]), ONE, True)]:
            self.assertIs(is_paper_of(claim, value), told, (claim, value))

    def test_teams_of_four_places(self):
        four, lame = Team([unit(4)]), Team([unit(4)[:3] + [[0] * 4]])
        for team, full in ((four, True), (lame, False)):
            for word in ("simple", "falls"):
                self.fails_value(InvalidClaim, claim := (word, team), is_true, claim)
            for word in ("fair", "unfair"):
                self.fails_value(InvalidClaim, claim := (word, team, 1, 1), paper_of, claim)
            for claim, told in [(("full", team), full), (("shrunk", team), not full), (("fades", team), not full),
                                (("lasts", team), full), (("lacks", team, 1), not full), (("keeps", team, 4), True),
                                (("most", team, []), full), (("less", team, []), not full)]:
                self.assertIs(is_true(claim), told)
                self.assertIs(is_paper_of(claim, paper_of(claim)), told)
        self.assertIsNone(paper_of(("full", lame)))

    def test_helpers_that_show_more_or_less(self):
        two = [[[1, 0], [0, 1]], [[0, 1], [0, 0]], [[0, 0], [1, 0]]]
        one = [[[1]], [[2]], [[3]]]
        signs = sign_team()
        for claim, value, told in [(("full", signs), two, True), (("full", signs), one, False), (("keeps", signs, 1), two, True),
                                   (("keeps", signs, 1), one, False), (("keeps", signs, 2), one, True), (("keeps", signs, 3), one, True),
                                   (("most", signs, []), two, True), (("most", signs, []), one, False), (("lasts", signs), two, True),
                                   (("most", signs, unit(3)), two, True), (("most", signs, [[1, 0, 0]]), two, False),
                                   (("full", signs), [row[:1] for row in two], False), (("fair", signs, 1, 1), two, True),
                                   (("fair", signs, 2, 2), two, True), (("fair", signs, 3, 3), two, False),
                                   (("full", signs), two[:2], False), (("keeps", signs, 1), two + two[:1], False)]:
            self.assertIs(is_paper_of(claim, value), told, (claim, value))
        # A room with a loss below 0 is less than the lack, so no rank shows it to be the most.
        tall = Team([[[1], [0]], [[0], [1]]])
        self.assertIs(is_true(("most", tall, [[1]])), False)
        self.assertEqual(paper_of(("less", tall, [[1]])), [])
        self.assertIs(is_paper_of(("less", tall, [[1]]), []), True)
        self.assertIs(is_paper_of(("less", tall, [[1]]), [[1]]), False)
        self.assertIs(is_paper_of(("most", tall, [[1]]), [[[1]], [[1]]]), False)

    def test_papers_with_one_thing_otherwise(self):
        for claim in all_claims(291, 4):
            for one in (claim, contrary(claim)):
                paper = paper_of(one)
                if not isinstance(paper, list) or len(paper) == 0:
                    continue
                for other in (paper[:-1], paper + [paper[-1]], [paper], (paper, paper), paper[:-1] + [None], {0: paper}):
                    self.assertIs(is_paper_of(one, other), is_paper_by_the_table(one, other))
                self.assertIs(is_paper_of(one, [paper]), False)
                self.assertIs(is_paper_of(one, paper[:-1] + [None]), False)

    def test_what_is_known_elsewhere(self):
        for claim in all_claims(292, 5):
            word, team, *parts = claim
            if word == "lacks":
                room, helpers = paper_of(claim), paper_of(contrary(claim))
                self.assertIs(room is not None and is_loss_room(team, parts[0], room), is_true(claim))
                self.assertIs(helpers is not None and is_free_helpers(team, team.wide + 1 - parts[0], helpers), not is_true(claim))
            if word == "simple" and is_true(claim):
                self.assertIs(is_paper_of(("full", team), free_helpers(team)), True)
                self.assertIsNotNone(alike(team, team))


if __name__ == "__main__":
    unittest.main()
