"""The examples of the document, as they stand."""

import doctest
import unittest

RATIOS = '''
>>> from shrunkrooms.ratios import Ratio
>>> [Ratio(4, -6), str(Ratio(1, 2) + 3), Ratio(1, 3).is_below(Ratio(2, 5))]
[Ratio(-2, 3), '7/2', True]
'''

STEPS = '''
>>> from shrunkrooms.steps import holds, joined, level, rank, shared, steps
>>> [steps([[0, 2], [0, 3]]), rank([[1, 2], [2, 4]]), level([[1, 2]], 2) == [[Ratio(1), Ratio(-1, 2)]], holds([[1, 1], [0, 2]], [3, 5])]
[[[Ratio(0, 1), Ratio(1, 1)]], 1, True, True]
>>> [joined([[1, 0, 0]], [[1, 1, 0]]) == steps([[1, 0, 0], [0, 1, 0]]), shared([[1, 0], [0, 1]], [[2, 2]]), holds([[1, 1]], [1, 2])]
[True, [[Ratio(1, 1), Ratio(1, 1)]], False]
'''

TEAMS = '''
>>> from shrunkrooms.teams import Team, before, does, loss, made
>>> narrow = Team([[[1, 0], [0, 0]], [[0, 1], [0, 0]]])
>>> [narrow.many, does(narrow, 1, [2, 3]) == [Ratio(3), Ratio(0)], made(narrow, [[1, 0], [0, 1]]) == [[Ratio(1), Ratio(0)]], loss(narrow, [[1, 0], [0, 1]]), loss(narrow, [[1, 1]]), before(narrow, [])]
[2, True, True, 1, 0, []]
'''

MAKERS = '''
>>> from shrunkrooms.makers import behind, beside, in_letters, pairs_team, pattern_team, remixed, sign_team, upright, within
>>> [upright(narrow).tables()[1] == [[Ratio(0), Ratio(0)], [Ratio(1), Ratio(0)]], pattern_team(2, 2, [(0, 0), (0, 1)]) == narrow, pairs_team([[1, 0], [1, 0]], [[1, 0], [0, 1]]) == narrow, remixed(narrow, [[1, 0], [0, 1]]) == narrow]
[True, True, True, True]
>>> [in_letters(narrow, [[2, 0], [0, 1]], [[0, 1], [1, 0]]).tables()[0] == [[Ratio(0), Ratio(2)], [Ratio(0), Ratio(0)]], beside(narrow, narrow).wide, within(narrow, [[1, 0], [0, 1]]).tall, behind(narrow, [[1, 1]]).tables() == [[[Ratio(0)]], [[Ratio(0)]]]]
[True, 4, 1, True]
>>> made(sign_team(), [[1, 0, 0]]) == steps([[0, 1, 0], [0, 0, 1]])
True
'''

TABLES = '''
>>> from shrunkrooms.tables import determinant, is_table, table_rank, table_times, undone
>>> [table_rank([[1, 2], [2, 4]]), determinant([[1, 2], [3, 4]]) == Ratio(-2), undone([[2, 0], [0, 4]]) == [[Ratio(1, 2), Ratio(0)], [Ratio(0), Ratio(1, 4)]], undone([[1, 2], [2, 4]])]
[1, True, True, None]
>>> [table_times([[1, 2]], [[0], [3]]) == [[Ratio(6)]], is_table([[1], [1, 2]])]
[True, False]
'''

HELPERS = '''
>>> from shrunkrooms.helpers import copies, crossed, crossed_rank, is_kept_small, pieces, sides
>>> from shrunkrooms.makers import sign_team
>>> signs, two = sign_team(), [[[1, 0], [0, 1]], [[0, 1], [0, 0]], [[0, 0], [1, 0]]]
>>> [sides(signs, two), crossed_rank(signs, two), crossed_rank(signs, [[[1]], [[2]], [[3]]]), [str(number) for number in crossed(signs, two)[0]]]
[(2, 2), 6, 2, ['0', '0', '1', '0', '0', '1']]
>>> [len(copies(signs, [[1, 0, 0]], 4)), len(pieces([[1, 0, 0, 2]], 2)), is_kept_small(signs, two, [[1, 0, 0]])]
[4, 2, True]
'''

PLAIN = '''
>>> from shrunkrooms.plain import is_plain_paper, mixture, plain_paper, plain_rank
>>> [plain_rank(signs), is_plain_paper(signs, plain_paper(signs)), is_plain_paper(signs, [1, 1, 1]), is_plain_paper(signs, [0, 0, 0]), [str(number) for number in mixture(signs, [2, 0, 3])[1]]]
[2, True, True, False, ['-2', '0', '3']]
'''

WONG = '''
>>> from shrunkrooms.makers import sign_team
>>> from shrunkrooms.teams import Team
>>> from shrunkrooms.wong import back, stays, wong
>>> narrow = Team([[[1, 0, 0], [0, 0, 1]], [[0, 1, 0], [0, 0, 0]]])
>>> [len(wong(narrow, [[[1]], [[0]]])), len(back(narrow, [[[1]], [[0]]], [])), stays(narrow, [[[1]], [[0]]]), stays(sign_team(), [[[1]], [[1]], [[2]]])]
[2, 1, True, False]
'''

LACKS = '''
>>> from shrunkrooms.lacks import free_rank, is_free_helpers, is_full, is_loss_room, lack
>>> [lack(narrow), free_rank(narrow), lack(sign_team()), is_full(sign_team()), is_full(narrow)]
[1, 2, 0, True, False]
>>> [is_loss_room(narrow, 1, [[0, 1, 0], [0, 0, 1]]), is_free_helpers(narrow, 2, [[[1]], [[0]]]), is_loss_room(narrow, 0, []), is_free_helpers(sign_team(), 3, [[[1]], [[1]], [[2]]])]
[False, True, True, False]
'''

MOST = '''
>>> from shrunkrooms.most import greatest_room, greatest_within, is_most, least_room, least_with, swelling, three
>>> from shrunkrooms.teams import Team
>>> pair = Team([[[1, 0, 0], [0, 0, 0], [0, 0, 1]], [[0, 1, 0], [0, 0, 0], [0, 0, 0]]])
>>> [[str(number) for number in row] for row in least_room(pair)] + [len(greatest_room(pair)), three(pair), is_most(pair, [[1, 1, 0]]), len(least_with(pair, [[1, 0, 2]])), greatest_within(pair, [[1, 0, 0], [0, 0, 1]]), swelling(pair, [[1, 0, 0]], [[0, 1, 0]])]
[['1', '0', '0'], ['0', '1', '0'], 3, ((1, 2), (1, 1), (1, 0)), False, 3, None, (0, 0, 1, 0)]
'''

TIGHT = '''
>>> from shrunkrooms.makers import pattern_team, sign_team
>>> from shrunkrooms.ratios import Ratio
>>> from shrunkrooms.tight import is_tight, least_tight, tight_room
>>> corner = pattern_team(2, 2, [(0, 0), (0, 1), (1, 1)])
>>> [is_tight(corner, [[1, 0]]), is_tight(corner, [[0, 1]]), len(least_tight(corner, [[0, 1]])), tight_room(corner) == [[Ratio(1), Ratio(0)]], tight_room(sign_team())]
[True, False, 2, True, None]
'''

BLOCKS = '''
>>> from shrunkrooms.blocks import block_sizes, chain, is_chain, is_simple, pieces_of
>>> [is_simple(corner), is_simple(sign_team()), block_sizes(corner), is_chain(corner, [[], [[1, 0]], [[1, 0], [0, 1]]]), is_chain(corner, [[], [[1, 0], [0, 1]]])]
[False, True, [1, 1], True, False]
>>> [piece.tables()[0] == [[Ratio(1)]] for piece in pieces_of(corner, chain(corner))]
[True, False]
'''

ALIKE = '''
>>> from shrunkrooms.alike import alike, is_alike
>>> first, last = pieces_of(corner, chain(corner))
>>> [alike(first, last), is_alike(first, first, ([[2]], [[2]])), is_alike(first, first, ([[2]], [[1]])), is_alike(corner, corner, ([[1, 5], [0, 1]], [[1, 5], [0, 1]]))]
[None, True, False, False]
'''

SLOPES = '''
>>> from shrunkrooms.makers import sign_team
>>> from shrunkrooms.slopes import slope_chain, slopes
>>> from shrunkrooms.teams import Team
>>> uneven = Team([[[1, 0, 0], [0, 0, 1]], [[0, 1, 0], [0, 0, 0]]])
>>> [slopes(uneven), [len(room) for room in slope_chain(uneven)], slopes(sign_team()), slopes(Team([[[0, 0]], [[0, 1]]]))]
[[(1, 2), (1, 1)], [0, 2, 3], [(3, 3)], [(0, 1), (1, 1)]]
'''

FAIR = '''
>>> from shrunkrooms.fair import fair_helpers, is_fair, is_fair_helpers, is_piece_helpers, is_unfair_room, piece_helpers, unfair_room
>>> [is_fair(uneven, 2, 1), is_fair(uneven, 1, 1), is_unfair_room(uneven, 1, 1, [[1, 0, 0], [0, 1, 0]]), is_unfair_room(uneven, 1, 1, [[1, 0, 0]]), unfair_room(uneven, 2, 1)]
[True, False, True, False, None]
>>> [is_piece_helpers(Team([[[1], [0]], [[0], [1]]]), [[[1, 0]], [[0, 1]]]), len(piece_helpers(sign_team())), is_fair_helpers(uneven, 2, 1, fair_helpers(uneven, 2, 1)), is_fair_helpers(uneven, 1, 1, [[[1]], [[1]]])]
[True, 3, True, False]
'''

BOARDS = '''
>>> from shrunkrooms.boards import cover, is_cover, is_rooks, rooks
>>> hook = [(0, 0), (0, 1), (0, 2), (1, 0), (2, 0)]
>>> [len(rooks(3, 3, hook)), cover(3, 3, hook), is_rooks(3, 3, hook, [(2, 0), (0, 1)]), is_rooks(3, 3, hook, [(0, 0)]), is_cover(3, 3, hook, ([0, 1, 2], []))]
[2, ([0], [0]), True, False, False]
'''

PAIRS = '''
>>> from shrunkrooms.pairs import common_lot, is_common_lot, is_cut_lot
>>> fars, nears = [[1, 0], [1, 0], [0, 1]], [[1, 0], [0, 1], [1, 1]]
>>> [len(common_lot(fars, nears)), is_common_lot(fars, nears, [2, 1]), is_common_lot(fars, nears, [0, 1]), is_cut_lot(fars, nears, [0, 1, 2]), is_cut_lot(fars, nears, [0])]
[2, True, False, True, False]
'''

SIGNS = '''
>>> from shrunkrooms.makers import sign_team
>>> from shrunkrooms.signs import is_sign_letters, is_signs, plain_gap, sign_letters
>>> from shrunkrooms.teams import Team
>>> [plain_gap(sign_team()), is_signs(sign_team()), is_sign_letters(sign_team(), [[2, 0, 0], [0, 2, 0], [0, 0, 2]]), is_sign_letters(sign_team(), [[1, 0, 0], [0, 2, 0], [0, 0, 2]]), sign_letters(Team([[[1]]]))]
[1, True, True, False, None]
'''

FADING = '''
>>> from shrunkrooms.fading import faded, fading, is_fading
>>> one, falls = [[1, 0], [0, 1]], Team([[[1, 0], [0, 0]], [[0, 1], [0, 0]]])
>>> [is_fading(falls, (one, one, [1, -1], [0, 0])), is_fading(falls, (one, one, [1, 0], [0, 0])), is_fading(falls, fading(falls)), fading(Team([one]))]
[True, False, True, None]
>>> faded(falls, (one, one, [1, -1], [0, 0]), Ratio(1, 2)).tables()[1][0]
[Ratio(0, 1), Ratio(1, 2)]
'''

STAYING = '''
>>> from shrunkrooms.makers import sign_team
>>> from shrunkrooms.staying import is_staying, stay, volume
>>> turns = [one, [[0, 1], [0, 0]], [[0, 0], [1, 0]]]
>>> [volume([[1, 2], [3, 4]]), stay(sign_team(), turns), stay(sign_team(), [[[1]], [[2]], [[3]]]), is_staying(sign_team(), turns), is_staying(falls, [one, one])]
[Ratio(-2, 1), Ratio(-1, 1), Ratio(0, 1), True, False]
'''

TEXTS = '''
>>> from shrunkrooms.teams import Team
>>> from shrunkrooms.texts import is_form, written
>>> [written("team", Team([[[1, 0]], [[0, Ratio(1, 2)]]])), written("grid", []), written("places", [(0, 1), (2, 0)]), is_form("places", [(2, 0), (0, 1)])]
['team 2 1 2\\nrow 1 0\\nrow 0 1/2\\n', 'grid\\n', 'places\\nat 0 1\\nat 2 0\\n', False]
'''

FORMS = '''
>>> from shrunkrooms.forms import read
>>> [read("team 1 1 1\\nrow 2\\n") == ("team", Team([[[2]]])), read("grid\\n"), read("places\\nat 0 3\\n"), read(written("numbers", [3, Ratio(-1, 2)]))[1] == [Ratio(3), Ratio(-1, 2)]]
[True, ('grid', []), ('places', [(0, 3)]), True]
'''

CLAIMS = '''
>>> from shrunkrooms.claims import contrary, is_paper_of, is_true
>>> lost = Team([[[1, 0], [0, 0]], [[0, 1], [0, 0]]])
>>> [is_true(("shrunk", lost)), contrary(("full", lost)) == ("shrunk", lost), is_paper_of(("lacks", lost, 1), [[1, 0], [0, 1]]), is_paper_of(("keeps", lost, 2), [[[1]], [[0]]])]
[True, True, True, True]
>>> [is_paper_of(("less", lost, []), [[1, 0], [0, 1]]), is_paper_of(("unfair", lost, 1, 1), [[1, 0], [0, 1]]), is_true(("lasts", lost))]
[True, True, False]
'''

COMMANDS = '''
>>> from shrunkrooms.commands import is_command, is_deed
>>> [is_command("team t 1,0;0,1/2 0,0;1,0"), is_command("team t 1,0;0"), is_deed("room r t"), is_command("claim k lacks t 1"), is_deed("undo")]
[True, False, True, True, False]
'''

DESK = '''
>>> from shrunkrooms.desk import Desk
>>> desk = Desk()
>>> desk.do_all("team t 1,0;0,0 0,1;0,0", "claim k shrunk t", "lack t", "least r t", "show r", "entry t 1 1 0 1", "lack t", "loss r", "size t")
['-', 'k true', '1', '-', '1,0 0,1', 'k false', '0', '1', '2 2 2']
>>> [desk.do("undo"), desk.do("state k"), desk.do("room s t 1,1"), desk.do("made s"), desk.do("same r s"), desk.do("names")]
['entry t 1 1 0 1', 'true', '-', '1,0', 'no', 'r s t']
'''

# Names stand for what they were in the last example that gave them: so all run behind one another.
EXAMPLES = [("ratios", RATIOS, 2), ("steps", STEPS, 3), ("teams", TEAMS, 3), ("makers", MAKERS, 4), ("tables", TABLES, 3),
            ("helpers", HELPERS, 5), ("plain", PLAIN, 2),
            ("wong", WONG, 5), ("lacks", LACKS, 3), ("most", MOST, 4), ("tight", TIGHT, 5),
            ("blocks", BLOCKS, 3), ("alike", ALIKE, 3), ("slopes", SLOPES, 5), ("fair", FAIR, 3), ("boards", BOARDS, 3),
            ("pairs", PAIRS, 3), ("signs", SIGNS, 4), ("fading", FADING, 4), ("staying", STAYING, 4),
            ("texts", TEXTS, 3), ("forms", FORMS, 2), ("claims", CLAIMS, 4), ("commands", COMMANDS, 2), ("desk", DESK, 4)]


class Examples(unittest.TestCase):
    def test_examples(self):
        names = {}
        for title, text, many in EXAMPLES:
            runner = doctest.DocTestRunner(verbose=False)
            test = doctest.DocTestParser().get_doctest(text, names, title, title, 0)
            said = []
            found = runner.run(test, out=said.append, clear_globs=False)
            names = test.globs
            self.assertEqual((found.failed, found.attempted), (0, many), "".join(said))

    def test_the_overview(self):
        from shrunkrooms.helpers import crossed_rank
        from shrunkrooms.makers import sign_team
        from shrunkrooms.plain import plain_rank
        from shrunkrooms.teams import Team, loss
        helpers = [[[1, 0], [0, 1]], [[0, 1], [0, 0]], [[0, 0], [1, 0]]]
        self.assertEqual([plain_rank(sign_team()), crossed_rank(sign_team(), helpers)], [2, 6])
        lossy = Team([[[1, 0, 0], [0, 0, 1]], [[0, 1, 0], [0, 0, 0]]])
        self.assertEqual(loss(lossy, [[1, 0, 0], [0, 1, 0]]), 1)


if __name__ == "__main__":
    unittest.main()
