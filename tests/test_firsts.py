"""[30], [32], [33]: the inside of finding first terms, each way by itself."""

import random
import unittest
from unittest import mock

from addnests import compare, firsts, spans, sums
from addnests.nests import split
from addnests.programs import Program
from addnests.quotients import denominator, numerator, reach, unpacked, weights_for
from addnests.vectors import product_sum
from tests.test_equal import rewritten, small_nest
from tests.test_sums import in_scope, multiplied_out, random_sum, with_vectors
from tests.tools import BIG, round_by_round


def first_of(terms):
    """The first term of a sum, spelled out."""
    return (min(terms), terms[min(terms)]) if terms else None


class Terms(unittest.TestCase):
    def test_unpacked(self):
        chance = random.Random(1)
        for trial in range(500):
            axes = chance.randint(1, 3)
            step = tuple(chance.randint(-3, 3) for axis in range(axes))
            row = ([(chance.randint(0, 3), step)], tuple(chance.randint(-2, 2) for axis in range(axes)), 1)
            weights = weights_for([row], axes)
            ends = [reach([row], axis) - 1 for axis in range(axes)]
            cell = tuple(chance.choice([-end, end, 0, chance.randint(-end, end)]) for end in ends)
            self.assertEqual(unpacked(product_sum(cell, weights), weights), cell)

    def test_asked(self):
        groups = {(0, 1): {3: 1, 5: 2}, (2,): {7: 1}, (): {3: 4}}
        self.assertEqual(firsts.asked(groups, (0, 6)), {(0, 1): {3: 1, 5: 2}, (): {3: 4}})
        self.assertEqual(firsts.asked(groups, (2, None)), {(0, 1): {3: 1}, (2,): {7: 1}})
        self.assertEqual(firsts.asked(groups, (1, None)), {})
        self.assertEqual(firsts.asked({}, sums.ALL), {})

    def test_least_places(self):
        self.assertEqual(firsts.least_places([4, 0], [1, 10], 5), [0, 1, 4, 5, 10])
        self.assertEqual(firsts.least_places([4, 0], [1, 10], 100), [0, 1, 4, 5, 10, 11, 14, 15])
        self.assertEqual(firsts.least_places([0], [2, 2, 2], 3), [0, 2, 2])
        self.assertEqual(firsts.least_places([9, 4, 0], [100], 2), [0, 4])

    def test_horizon(self):
        groups = {(0, 1): {0: 1}, (0,): {50: 1, 51: -1, 60: 2}}
        self.assertEqual(firsts.horizon(groups, [3, 7], 3), 7)
        self.assertEqual(firsts.horizon(groups, [3, 7], 5), 60)
        self.assertEqual(firsts.horizon(groups, [3, 7], 7), None)
        self.assertEqual(firsts.horizon({}, [], 1), None)

    def test_first_within(self):
        chance = random.Random(2)
        for trial in range(500):
            groups, vectors = sums.ranked_products(random_sum(chance))[:2]
            scope = (chance.choice([0, 0, 2, 3]), chance.choice([None, -1, 0, 3, 6]))
            wanted = first_of(in_scope(multiplied_out(with_vectors(groups, vectors)), scope))
            self.assertEqual(firsts.first_within(groups, vectors, scope), wanted)
        self.assertIsNone(firsts.first_within({}, [], sums.ALL))

    def test_first_term(self):
        chance = random.Random(3)
        for trial in range(1000):
            products = random_sum(chance)
            modulus = chance.choice([0, 0, 1, 2, 3])
            wanted = first_of(in_scope(multiplied_out(products), (modulus, None)))
            for few, more in [(16, 256), (1, 1), (1, 2), (2, 4)]:
                with mock.patch.object(firsts, "FEW", few), mock.patch.object(firsts, "MORE", more):
                    self.assertEqual(firsts.first_term(products, modulus), wanted)
                    self.assertIn(firsts.early_term(products, modulus), [None, wanted])
        for modulus in (0, 1, 2):
            self.assertIsNone(firsts.first_term({}, modulus))
            self.assertIsNone(firsts.early_term({}, modulus))

    def test_early_term_of_few_terms(self):
        products = {((1, 0), (2, 0)): {0: 1}, ((3, 0),): {0: -1}}
        self.assertEqual(firsts.early_term(products, 0), (1, -1))

    def test_spelled_out(self):
        chance = random.Random(4)
        for trial in range(500):
            products = random_sum(chance)
            for most in (0, 100):
                with mock.patch.object(sums, "MOST_KEYS", most):
                    terms, left_out = firsts.spelled_out(products)
                again = {tuple((vector, at) for at, vector in enumerate(left_out)): terms}
                self.assertEqual(multiplied_out(again), multiplied_out(products))
        self.assertEqual(firsts.spelled_out({}), ({}, []))

    def test_denominator(self):
        rows = [([(3, (2,)), (4, (-5,))], (0,), 1), ([(3, (2,)), (9, (2,)), (1, (8,))], (0,), 1), ([(0, (7,))], (0,), 1)]
        self.assertEqual(denominator(rows, 1), [2, 2, 5])
        self.assertEqual(denominator([([(3, (2,)), (2, (6,))], (0,), 1)], 1), [2])


class Ways(unittest.TestCase):
    def decided(self):
        chance = random.Random(5)
        for trial in range(400):
            axes = chance.randint(1, 3)
            one = [small_nest(chance, axes) for k in range(chance.randint(1, 4))]
            other = [new for nest in one for new in rewritten(chance, nest)]
            if trial & 1:
                other = other + [([], tuple(chance.randint(0, 4) for axis in range(axes)), chance.randint(-1, 1))]
            sums_of = round_by_round((Program(axes, one) - Program(axes, other)).nests())
            program = Program(axes, one) - Program(axes, other)
            self.assertEqual(compare.first_cell(program), first_of(sums_of))
            wanted = [(min(cell[axis] for cell in sums_of), max(cell[axis] for cell in sums_of))
                      for axis in range(axes)] if sums_of else None
            self.assertEqual(compare.box(program), wanted)
            self.assertEqual(spans.spans(program.nests(), axes), wanted)

    def test_as_it_is(self):
        self.decided()

    def test_when_nothing_is_found_early(self):
        with mock.patch.object(firsts, "FEW", 1), mock.patch.object(firsts, "MORE", 1):
            self.decided()

    def test_when_something_is_found_in_the_middle(self):
        with mock.patch.object(firsts, "FEW", 1), mock.patch.object(firsts, "MORE", 4):
            self.decided()

    def test_without_meetings(self):
        with mock.patch.object(firsts, "FEW", 1), mock.patch.object(sums, "MOST_KEYS", 0):
            self.decided()

    def test_spans_of_much(self):
        nest = ([(BIG, (1, 3)), (BIG, (-2, 5)), (BIG, (7, -1))], (4, 5), 3)
        far = BIG - 1
        wanted = [(4 - 2 * far, 4 + 8 * far), (5 - far, 5 + 8 * far)]
        self.assertEqual(spans.spans([nest], 2), wanted)
        self.assertEqual(spans.spans(split(nest, 1, 99), 2), wanted)
        self.assertIsNone(spans.spans(split(nest, 1, 99) + [(nest[0], nest[1], -3)], 2))


if __name__ == "__main__":
    unittest.main()
