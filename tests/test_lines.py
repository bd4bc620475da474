"""[70] to [73]: the inside of families: lines, polynomials, and terms with them."""

import itertools
import random
import unittest

from addnests.letters import cancel_at, cancelling_numbers, gaps, strides, terms_of
from addnests.lines import (
    cell_at, first_below, flat, last_rise, line_at, numbers_at_zeros, polynomials, product, root_below, settled, zeros)
from tests.tools import BIG


def value(polynomial, number):
    """The value of a polynomial."""
    a, b, c = polynomial
    return a * number * number + b * number + c


class Lines(unittest.TestCase):
    def test_where_a_line_is_below_0(self):
        for line in itertools.product(range(-5, 6), range(-20, 21)):
            below = [number for number in range(80) if line_at(line, number) < 0]
            for low in (0, 1, 3, 7):
                found = [number for number in below if number >= low]
                self.assertEqual(first_below(line, low), min(found, default=None))
            last = None if 79 in below else max(below, default=-1) + 1
            self.assertEqual(last_rise(line), last)
        self.assertEqual(first_below((-1, BIG), 0), BIG + 1)
        self.assertEqual(first_below((-1, BIG), 2 * BIG), 2 * BIG)

    def test_products(self):
        chance = random.Random(1)
        for trial in range(200):
            line, *lines = [(chance.randint(-9, 9), chance.randint(-9, 9)) for k in range(4)]
            for number in (0, 1, 5, -3):
                cell = tuple(line_at(other, number) for other in lines)
                self.assertEqual(cell_at(flat(lines), number), cell)
                self.assertEqual(cell_at(product(line, lines), number), tuple(line_at(line, number) * far for far in cell))
        self.assertEqual(polynomials((1, 2, 3, 4, 5, 6)), [(1, 2, 3), (4, 5, 6)])

    def test_root_below(self):
        for number in list(range(300)) + [BIG - 1, BIG, BIG + 1, 3 * BIG]:
            root = root_below(number)
            self.assertTrue(root * root <= number < (root + 1) * (root + 1))

    def test_zeros(self):
        for polynomial in itertools.product(range(-4, 5), range(-9, 10), range(-12, 13)):
            if any(polynomial):
                found = [number for number in range(-13, 14) if value(polynomial, number) == 0]
                self.assertEqual(sorted(zeros(polynomial)), found)
        self.assertEqual(sorted(zeros((1, 1 - BIG, -BIG))), [-1, BIG])
        self.assertEqual(zeros((BIG, -2 * BIG, BIG)), [1])

    def test_numbers_at_zeros(self):
        cell = (0, 0, 0, 1, -5, 6, 0, 2, -4)
        self.assertEqual(numbers_at_zeros(cell, 0), [2])
        self.assertEqual(numbers_at_zeros(cell, 3), [])
        self.assertEqual(sorted(numbers_at_zeros(cell[:6], 0)), [2, 3])
        self.assertEqual(numbers_at_zeros(cell[:6], 3), [3])
        self.assertEqual(numbers_at_zeros((0, 0, 0, 0, 0, 4), 0), [])

    def test_settled(self):
        for polynomial in itertools.product(range(-3, 4), range(-7, 8), range(-9, 10)):
            if any(polynomial):
                sides = [value(polynomial, number) > 0 for number in range(settled(polynomial), 40)]
                self.assertEqual(len(set(sides)), 1)
                self.assertEqual(sides[0], polynomial > (0, 0, 0))
                self.assertEqual(settled((0, 0, 0) + polynomial), settled(polynomial))
                self.assertNotIn(0, [value(polynomial, number) for number in range(settled(polynomial), 40)])


class Terms(unittest.TestCase):
    def test_terms(self):
        row = ([((1, 0), ((0, 2),))], ((0, 5),), 3)
        self.assertEqual(terms_of([row]), {(0, 0, 5): 3, (0, 2, 5): -3})
        back = ([((1, 0), ((0, -2),))], ((2, 3),), 3)
        self.assertEqual(terms_of([back]), {(0, 0, 5): 3, (0, 2, 5): -3})
        self.assertEqual(terms_of([row, ([((1, 0), ((0, -2),))], ((2, 3),), -3)]), {})
        single = ([((0, 1), ((7, 7),))], ((0, 5),), 3)
        self.assertEqual(terms_of([single]), {(0, 0, 5): 3})
        self.assertEqual(strides([row, single, back]), [(0, 0, 2), (0, 0, -2)])
        self.assertEqual(terms_of([([((0, 0), ((0, 2),))], ((0, 5),), 3)]), {})
        self.assertEqual(terms_of([row[:2] + (0,)]), {})
        self.assertEqual(terms_of([]), {})

    def test_gaps(self):
        self.assertEqual(gaps({(0, 2, 5): -3, (0, 0, 5): 3, (1, 0, 0): 7}), [((0, 2, 0), -3), ((1, 0, -5), 7)])

    def test_cancelling(self):
        # Terms at n * n, at 5 * n - 6 and at 6 meet, in turn, at 2, 3 and never all at once.
        terms = {(1, 0, 0): 1, (0, 5, -6): -1}
        self.assertEqual([number for number in range(9) if cancel_at(terms, number)], [2, 3])
        self.assertEqual(cancelling_numbers(terms, 0), [2, 3])
        self.assertEqual(cancelling_numbers(terms, 3), [3])
        self.assertEqual(cancelling_numbers({(1, 0, 0): 1, (0, 5, -6): 1}, 0), [])
        self.assertEqual(cancelling_numbers({(1, 0, 0): 1, (0, 5, -6): -1, (0, 0, 6): 1}, 0), [])
        self.assertEqual(cancelling_numbers({(1, 0, 0): 1, (0, 5, -6): -1, (0, 0, 6): 1, (0, 2, 0): -1}, 0), [3])
        self.assertEqual(cancelling_numbers({(1, 0, 0): 1}, 0), [])


if __name__ == "__main__":
    unittest.main()
