"""The whole program: all names of the interface with their parameters, and what the guarantees tell."""

import importlib
import inspect
import unittest

from shrunkrooms.claims import contrary, is_paper_of, is_true, paper_of
from shrunkrooms.desk import Desk
from shrunkrooms.fading import fading
from shrunkrooms.helpers import crossed_rank
from shrunkrooms.lacks import free_helpers, free_rank, lack, loss_room
from shrunkrooms.most import greatest_room, least_room
from shrunkrooms.pairs import common_lot, cut_lot
from shrunkrooms.ratios import Ratio
from shrunkrooms.staying import is_staying
from shrunkrooms.teams import Team, loss
from tests.drawn_teams import teams_of_all_sides
from tests.test_claims import all_claims
from tests.tools import Case, Draw, lists_in, makes, other_kinds, ratios

FUNCTIONS = {
    "basics": "is_integer(value) is_count(value)", "ratios": "is_number(value)",
    "steps": "is_grid(value) steps(grid) rank(grid) joined(grid,other) shared(grid,other) level(grid,wide) holds(grid,row)",
    "teams": "is_room(team,value) told_room(team,room) does(team,place,mixture) made(team,room) before(team,far) loss(team,room)",
    "makers": "upright(team) in_letters(team,left,right) remixed(team,numbers) beside(team,other) without(team,place) "
              "with_table(team,table) behind(team,room) within(team,room) pattern_team(tall,wide,places) pairs_team(fars,nears) "
              "sign_team()",
    "tables": "is_table(value) table_rank(table) determinant(table) undone(table) table_times(table,other)",
    "helpers": "is_helpers(team,value) sides(team,helpers) crossed(team,helpers) crossed_rank(team,helpers) copies(team,room,many) "
               "pieces(grid,many) is_kept_small(team,helpers,room)",
    "plain": "mixture(team,numbers) plain_rank(team) plain_paper(team) is_plain_paper(team,value)",
    "wong": "back(team,helpers,far) wong(team,helpers) stays(team,helpers)",
    "lacks": "lack(team) free_rank(team) is_full(team) loss_room(team) free_helpers(team) is_loss_room(team,many,value) "
             "is_free_helpers(team,many,value)",
    "most": "least_room(team) greatest_room(team) is_most(team,room) least_with(team,room) greatest_within(team,room) "
            "swelling(team,room,other) three(team)",
    "tight": "is_tight(team,room) least_tight(team,room) tight_room(team)",
    "blocks": "is_simple(team) block_sizes(team) chain(team) is_chain(team,value) pieces_of(team,chain)",
    "alike": "alike(team,other) is_alike(team,other,value)", "slopes": "slopes(team) slope_chain(team)",
    "fair": "is_fair(team,many,times) unfair_room(team,many,times) is_unfair_room(team,many,times,value) fair_helpers(team,many,times) "
            "is_fair_helpers(team,many,times,value) piece_helpers(team) is_piece_helpers(team,value)",
    "boards": "rooks(tall,wide,places) cover(tall,wide,places) is_rooks(tall,wide,places,value) is_cover(tall,wide,places,value)",
    "pairs": "common_lot(fars,nears) cut_lot(fars,nears) is_common_lot(fars,nears,value) is_cut_lot(fars,nears,value)",
    "signs": "plain_gap(team) is_signs(team) sign_letters(team) is_sign_letters(team,value)",
    "fading": "fading(team) is_fading(team,value) faded(team,paper,number)",
    "staying": "volume(table) stay(team,helpers) is_staying(team,value)",
    "texts": "sorts() is_form(sort,value) written(sort,value)", "forms": "read(text)",
    "claims": "words() is_claim(value) is_true(claim) contrary(claim) paper_of(claim) is_paper_of(claim,value)",
    "commands": "is_name(value) is_command(value) is_deed(value)", "desk": "tried(desk,action)"}

CLASSES = {
    ("ratios", "Ratio"): ("(top,bottom)", "over(other) unsigned() is_below(other) is_at_most(other) total(numbers)", "top bottom sign is_whole",
                          "__add__ __radd__ __sub__ __rsub__ __mul__ __rmul__ __neg__ __eq__ __str__ __repr__"),
    ("teams", "Team"): ("(tables)", "tables()", "many tall wide", "__eq__ __repr__"),
    ("desk", "Desk"): ("()", "do(command) do_all(commands) attempt(commands) claim_of(label) attach(label,paper) fits(label) lines() copy() again(lines)",
                       "names labels", "__len__ __getitem__ __contains__ __call__"),
    ("desk", "Trial"): ("(desk)", "", "", "__enter__ __exit__")}


def parameters(told):
    return [name for name in told.strip("()").split(",") if name]


def module(name):
    return importlib.import_module(f"shrunkrooms.{name}")


class Interface(Case):
    def test_functions(self):
        for name, told in FUNCTIONS.items():
            for function in told.split():
                title, _, rest = function.partition("(")
                found = getattr(module(name), title)
                self.assertEqual(found.__module__, f"shrunkrooms.{name}")
                self.assertEqual(list(inspect.signature(found).parameters), parameters(rest), title)
                for parameter in inspect.signature(found).parameters.values():
                    self.assertIs(parameter.kind, inspect.Parameter.POSITIONAL_OR_KEYWORD)
                    self.assertIs(parameter.default, inspect.Parameter.empty)

    def test_classes(self):
        for (name, title), (made_of, methods, properties, special) in CLASSES.items():
            found = getattr(module(name), title)
            self.assertEqual(found.__module__, f"shrunkrooms.{name}")
            self.assertEqual(list(inspect.signature(found).parameters), parameters(made_of))
            for method in methods.split():
                told, _, rest = method.partition("(")
                self.assertIn(told, vars(found))
                self.assertEqual([part for part in inspect.signature(getattr(found, told)).parameters if part != "self"], parameters(rest), told)
            for told in properties.split():
                self.assertIsInstance(vars(found)[told], property)
            for told in special.split():
                self.assertIn(told, vars(found))
        for told in ("do_all", "attempt"):
            kinds = [part.kind for part in inspect.signature(getattr(Desk, told)).parameters.values()]
            self.assertEqual(kinds[1:], [inspect.Parameter.VAR_POSITIONAL])


class Guarantees(Case):
    def test_shrunk_or_undone(self):
        for team in teams_of_all_sides():
            if team.tall == team.wide:
                helpers, room = free_helpers(team), loss_room(team)
                undone = crossed_rank(team, helpers) == len(helpers[0]) * team.wide
                self.assertIs(undone, loss(team, room) == 0)
                self.assertIs(is_staying(team, helpers), undone)
                self.assertIs(fading(team) is None, undone)

    def test_one_number(self):
        for team in teams_of_all_sides():
            helpers = free_helpers(team)
            self.assertEqual(crossed_rank(team, helpers), len(helpers[0]) * (team.wide - loss(team, loss_room(team))))
            self.assertEqual(lack(team) + free_rank(team), team.wide)

    def test_one_least_one_greatest(self):
        for team in teams_of_all_sides()[::2]:
            low, middle, high = least_room(team), loss_room(team), greatest_room(team)
            self.assertEqual([loss(team, room) for room in (low, middle, high)], [lack(team)] * 3)
            self.assertTrue(makes(middle, low) and makes(high, middle))

    def test_just_one_of_a_claim_and_its_contrary_has_a_paper(self):
        for claim in all_claims(330, 4):
            other = contrary(claim)
            papers = [paper_of(claim), paper_of(other)]
            self.assertEqual([paper is None for paper in papers], [is_true(other), is_true(claim)])
            for one in (claim, other):
                shown = [paper is not None and is_paper_of(one, paper) for paper in papers]
                self.assertEqual(shown, [one == claim and is_true(claim), one == other and is_true(other)])


class Conventions(Case):
    def test_results_by_worth(self):
        draw = Draw(331)
        for _ in range(30):
            tables = [draw.rows(3, 3) for _ in range(draw.count(1, 4))]
            team, other = Team(tables), Team(other_kinds(tables))
            self.assertEqual(team, other)
            for function in (loss_room, free_helpers, least_room, greatest_room, fading):
                self.assertEqual(repr(function(team)), repr(function(other)))
            fars, nears = draw.sparse(5, 3), draw.sparse(5, 2)
            self.assertEqual(common_lot(fars, nears), common_lot(other_kinds(fars), other_kinds(nears)))
            self.assertEqual(cut_lot(fars, nears), cut_lot(ratios(fars), ratios(nears)))

    def test_returned_lists_are_new(self):
        team = Team([[[1, 0], [0, 0]], [[0, 1], [0, 0]]])
        for call in (lambda: loss_room(team), lambda: fading(team), lambda: paper_of(("shrunk", team)), lambda: paper_of(("fades", team)),
                     lambda: contrary(("most", team, [[1, 0]])), lambda: common_lot([[1]], [[1]]), lambda: team.tables()):
            one, two = call(), call()
            self.assertEqual(one, two)
            held = [id(part) for part in lists_in(one)]
            self.assertEqual([part for part in lists_in(two) if id(part) in held], [])
            self.assertEqual(len(held), len(set(held)))

    def test_open_results_within_their_limits(self):
        draw = Draw(332)
        for side in (2, 3):
            tables = [[[Ratio(draw.integer(999999), draw.count(1, 999999)) for _ in range(side)] for _ in range(side)] for _ in range(16)]
            for team in (Team(tables), Team([[row if at else [0] * side for at, row in enumerate(table)] for table in tables])):
                for claim in (("full", team), ("lacks", team, 1), ("simple", team), ("fair", team, 2, 3), ("fades", team)):
                    for one in (claim, contrary(claim)):
                        paper = paper_of(one)
                        for part in lists_in(paper):
                            self.assertLessEqual(len(part), 400)
                            for number in part:
                                if isinstance(number, Ratio):
                                    self.assertLess(max(len(str(abs(number.top))), len(str(number.bottom))), 2000)


if __name__ == "__main__":
    unittest.main()
