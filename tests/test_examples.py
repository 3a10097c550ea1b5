"""The examples of the document, as they stand."""

import doctest
import unittest

RATIOS = '''
>>> from shrunkrooms.ratios import Ratio
>>> [Ratio(4, -6), str(Ratio(1, 2) + 3), Ratio(1, 3).is_below(Ratio(2, 5))]
[Ratio(-2, 3), '7/2', True]
'''

STEPS = '''
>>> from shrunkrooms.steps import holds, joined, level, rank, shared, steps
>>> [steps([[0, 2], [0, 3]]), rank([[1, 2], [2, 4]]), level([[1, 2]], 2) == [[Ratio(1), Ratio(-1, 2)]], holds([[1, 1], [0, 2]], [3, 5])]
[[[Ratio(0, 1), Ratio(1, 1)]], 1, True, True]
>>> [joined([[1, 0, 0]], [[1, 1, 0]]) == steps([[1, 0, 0], [0, 1, 0]]), shared([[1, 0], [0, 1]], [[2, 2]]), holds([[1, 1]], [1, 2])]
[True, [[Ratio(1, 1), Ratio(1, 1)]], False]
'''

TEAMS = '''
>>> from shrunkrooms.teams import Team, before, does, loss, made
>>> narrow = Team([[[1, 0], [0, 0]], [[0, 1], [0, 0]]])
>>> [narrow.many, does(narrow, 1, [2, 3]) == [Ratio(3), Ratio(0)], made(narrow, [[1, 0], [0, 1]]) == [[Ratio(1), Ratio(0)]], loss(narrow, [[1, 0], [0, 1]]), loss(narrow, [[1, 1]]), before(narrow, [])]
[2, True, True, 1, 0, []]
'''

MAKERS = '''
>>> from shrunkrooms.makers import behind, beside, in_letters, pairs_team, pattern_team, remixed, sign_team, upright, within
>>> [upright(narrow).tables()[1] == [[Ratio(0), Ratio(0)], [Ratio(1), Ratio(0)]], pattern_team(2, 2, [(0, 0), (0, 1)]) == narrow, pairs_team([[1, 0], [1, 0]], [[1, 0], [0, 1]]) == narrow, remixed(narrow, [[1, 0], [0, 1]]) == narrow]
[True, True, True, True]
>>> [in_letters(narrow, [[2, 0], [0, 1]], [[0, 1], [1, 0]]).tables()[0] == [[Ratio(0), Ratio(2)], [Ratio(0), Ratio(0)]], beside(narrow, narrow).wide, within(narrow, [[1, 0], [0, 1]]).tall, behind(narrow, [[1, 1]]).tables() == [[[Ratio(0)]], [[Ratio(0)]]]]
[True, 4, 1, True]
>>> made(sign_team(), [[1, 0, 0]]) == steps([[0, 1, 0], [0, 0, 1]])
True
'''

TABLES = '''
>>> from shrunkrooms.tables import determinant, is_table, table_rank, table_times, undone
>>> [table_rank([[1, 2], [2, 4]]), determinant([[1, 2], [3, 4]]) == Ratio(-2), undone([[2, 0], [0, 4]]) == [[Ratio(1, 2), Ratio(0)], [Ratio(0), Ratio(1, 4)]], undone([[1, 2], [2, 4]])]
[1, True, True, None]
>>> [table_times([[1, 2]], [[0], [3]]) == [[Ratio(6)]], is_table([[1], [1, 2]])]
[True, False]
'''

HELPERS = '''
>>> from shrunkrooms.helpers import copies, crossed, crossed_rank, is_kept_small, pieces, sides
>>> from shrunkrooms.makers import sign_team
>>> signs, two = sign_team(), [[[1, 0], [0, 1]], [[0, 1], [0, 0]], [[0, 0], [1, 0]]]
>>> [sides(signs, two), crossed_rank(signs, two), crossed_rank(signs, [[[1]], [[2]], [[3]]]), [str(number) for number in crossed(signs, two)[0]]]
[(2, 2), 6, 2, ['0', '0', '1', '0', '0', '1']]
>>> [len(copies(signs, [[1, 0, 0]], 4)), len(pieces([[1, 0, 0, 2]], 2)), is_kept_small(signs, two, [[1, 0, 0]])]
[4, 2, True]
'''

PLAIN = '''
>>> from shrunkrooms.plain import is_plain_paper, mixture, plain_paper, plain_rank
>>> [plain_rank(signs), is_plain_paper(signs, plain_paper(signs)), is_plain_paper(signs, [1, 1, 1]), is_plain_paper(signs, [0, 0, 0]), [str(number) for number in mixture(signs, [2, 0, 3])[1]]]
[2, True, True, False, ['-2', '0', '3']]
'''

# Names stand for what they were in the last example that gave them: so all run behind one another.
EXAMPLES = [("ratios", RATIOS, 2), ("steps", STEPS, 3), ("teams", TEAMS, 3), ("makers", MAKERS, 4), ("tables", TABLES, 3),
            ("helpers", HELPERS, 5), ("plain", PLAIN, 2)]


class Examples(unittest.TestCase):
    def test_examples(self):
        names = {}
        for title, text, many in EXAMPLES:
            runner = doctest.DocTestRunner(verbose=False)
            test = doctest.DocTestParser().get_doctest(text, names, title, title, 0)
            said = []
            found = runner.run(test, out=said.append, clear_globs=False)
            names = test.globs
            self.assertEqual((found.failed, found.attempted), (0, many), "".join(said))

    def test_the_overview(self):
        from shrunkrooms.helpers import crossed_rank
        from shrunkrooms.makers import sign_team
        from shrunkrooms.plain import plain_rank
        from shrunkrooms.teams import Team, loss
        helpers = [[[1, 0], [0, 1]], [[0, 1], [0, 0]], [[0, 0], [1, 0]]]
        self.assertEqual([plain_rank(sign_team()), crossed_rank(sign_team(), helpers)], [2, 6])
        lossy = Team([[[1, 0, 0], [0, 0, 1]], [[0, 1, 0], [0, 0, 0]]])
        self.assertEqual(loss(lossy, [[1, 0, 0], [0, 1, 0]]), 1)


if __name__ == "__main__":
    unittest.main()
