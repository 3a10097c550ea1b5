"""Integers at which polynomials are 0."""

import unittest

from shrunkrooms.roots import whole_roots
from tests.tools import Draw


def times(first, last):
    found = [0] * (len(first) + len(last) - 1)
    for i, a in enumerate(first):
        for j, b in enumerate(last):
            found[i + j] += a * b
    return found


def worth(weights, place):
    return sum(weight * place ** (len(weights) - 1 - at) for at, weight in enumerate(weights))


class WholeRoots(unittest.TestCase):
    def test_all_small_ones(self):
        for a in range(-6, 7):
            self.assertEqual(whole_roots([1, a]), [-a])
            for b in range(-9, 10):
                told = [place for place in range(-20, 21) if place * place + a * place + b == 0]
                self.assertEqual(whole_roots([1, a, b]), told)

    def test_products(self):
        draw = Draw(160)
        for _ in range(400):
            weights, roots = [1], set()
            for _ in range(draw.count(1, 3)):
                root = draw.integer(10 ** draw.count(0, 30))
                roots.add(root)
                weights = times(weights, [1, -root])
            self.assertEqual(whole_roots(weights), sorted(roots))
            # Times one that is 0 at no integer.
            self.assertEqual(whole_roots(times(weights, [1, 0, 1])), sorted(roots))
            self.assertEqual(whole_roots(times(weights, [1, 0, -2])), sorted(roots))

    def test_drawn_ones(self):
        draw = Draw(161)
        for _ in range(600):
            weights = [1] + [draw.integer(9) for _ in range(3)]
            self.assertEqual(whole_roots(weights), [place for place in range(-12, 13) if worth(weights, place) == 0])


if __name__ == "__main__":
    unittest.main()
