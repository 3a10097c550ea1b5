"""The examples of the document, as they stand."""

import doctest
import unittest

RATIOS = '''
>>> from shrunkrooms.ratios import Ratio
>>> [Ratio(4, -6), str(Ratio(1, 2) + 3), Ratio(1, 3).is_below(Ratio(2, 5))]
[Ratio(-2, 3), '7/2', True]
'''

STEPS = '''
>>> from shrunkrooms.steps import holds, joined, level, rank, shared, steps
>>> [steps([[0, 2], [0, 3]]), rank([[1, 2], [2, 4]]), level([[1, 2]], 2) == [[Ratio(1), Ratio(-1, 2)]], holds([[1, 1], [0, 2]], [3, 5])]
[[[Ratio(0, 1), Ratio(1, 1)]], 1, True, True]
>>> [joined([[1, 0, 0]], [[1, 1, 0]]) == steps([[1, 0, 0], [0, 1, 0]]), shared([[1, 0], [0, 1]], [[2, 2]]), holds([[1, 1]], [1, 2])]
[True, [[Ratio(1, 1), Ratio(1, 1)]], False]
'''

# Names stand for what they were in the last example that gave them: so all run behind one another.
EXAMPLES = [("ratios", RATIOS, 2), ("steps", STEPS, 3)]


class Examples(unittest.TestCase):
    def test_examples(self):
        names = {}
        for title, text, many in EXAMPLES:
            runner = doctest.DocTestRunner(verbose=False)
            test = doctest.DocTestParser().get_doctest(text, names, title, title, 0)
            said = []
            found = runner.run(test, out=said.append, clear_globs=False)
            names = test.globs
            self.assertEqual((found.failed, found.attempted), (0, many), "".join(said))


if __name__ == "__main__":
    unittest.main()
