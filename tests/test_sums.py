"""[23], [30]: the inside of comparing, each way of deciding a sum by itself."""

import random
import unittest
from unittest import mock

from addnests import sums
from addnests.programs import Program
from addnests.quotients import numerator, quotient, reach, weights_for
from addnests.vectors import product_sum
from tests.test_equal import rewritten, small_nest
from tests.tools import round_by_round


def multiplied_out(groups):
    """The terms of a sum whose members are pairs of a vector and a number, one factor after another."""
    total = {}
    for key, terms in groups.items():
        for vector, nth in key:
            longer = dict(terms)
            for place, amount in terms.items():
                longer[place + vector] = longer.get(place + vector, 0) - amount
            terms = longer
        for place, amount in terms.items():
            total[place] = total.get(place, 0) + amount
    return {place: amount for place, amount in total.items() if amount != 0}


def random_sum(chance):
    """A sum of a few groups with small vectors, often zero."""
    groups = {}
    for k in range(chance.randint(1, 6)):
        vectors = sorted(chance.randint(1, 4) for k in range(chance.randint(1, 3)))
        key = tuple((vector, vectors[:at].count(vector)) for at, vector in enumerate(vectors))
        groups[key] = {chance.randint(0, 5): chance.choice([-2, -1, 1, 3]) for k in range(chance.randint(1, 3))}
    return groups


def ranked_sum(groups):
    """A sum with numbers as members, and the vectors of them."""
    return sums.ranked_products(groups)[:2]


def with_vectors(groups, vectors):
    """The sum with pairs of a vector and a number as members again."""
    return {tuple((vectors[one], one) for one in key): terms for key, terms in groups.items()}


def in_scope(terms, scope):
    """The terms that a scope asks for."""
    modulus, limit = scope
    kept = {place: amount % modulus if modulus else amount for place, amount in terms.items()
            if limit is None or place <= limit}
    return {place: amount for place, amount in kept.items() if amount}


class Packing(unittest.TestCase):
    def test_reach(self):
        chance = random.Random(6)
        for trial in range(200):
            steps = [tuple(chance.randint(-40, 40) for axis in range(3)) for k in range(4)]
            rows = [([(chance.randint(0, 30), step) for step in chance.sample(steps, 2)],
                     tuple(chance.randint(-99, 99) for axis in range(3)), 1) for k in range(2)]
            for axis in range(3):
                most = 0
                for loops, place, amount in rows:
                    own = abs(place[axis]) + sum(count * abs(step[axis]) for count, step in loops)
                    most = max(most, own + sum(abs(step[axis]) for step in steps if any(
                        step == used for row in rows for count, used in row[0])))
                self.assertGreater(reach(rows, axis), most)

    def test_packed_in_order(self):
        chance = random.Random(7)
        for axes in (1, 2, 3):
            for trial in range(300):
                row = ([(chance.randint(0, 3), (1, 2, -3)[:axes])], tuple(chance.randint(-2, 2) for k in range(axes)), 1)
                weights = weights_for([row], axes)
                ends = [reach([row], axis) - 1 for axis in range(axes)]
                cells = [tuple(chance.choice([-end, end, chance.randint(-end, end)]) for end in ends) for k in range(6)]
                for one in cells:
                    for other in cells:
                        # Differences of two cells within reach are packed, too.
                        left = tuple(a - b for a, b in zip(one, other))
                        for right in [(0,) * axes, tuple(-a for a in left), one]:
                            packed = [product_sum(left, weights), product_sum(right, weights)]
                            self.assertEqual(packed[0] < packed[1], left < right)
                            self.assertEqual(packed[0] == packed[1], left == right)

    def test_quotients(self):
        weights = [100, 1]
        self.assertEqual(quotient(([], (2, 3), 5), weights), (((), ()), 203, 5))
        self.assertEqual(quotient(([(4, (0, 1)), (2, (1, -1))], (0, 0), 1), weights), (((4, 198), (1, 99)), 0, 1))
        self.assertEqual(quotient(([(4, (0, -1))], (0, 0), 1), weights), (((4,), (1,)), -3, 1))
        self.assertEqual(quotient(([(4, (0, 5)), (5, (0, 1))], (0, 0), 1), weights), (((20,), (1,)), 0, 1))
        self.assertEqual(quotient(([(4, (0, 0)), (1, (7, 7)), (1, (0, 0))], (0, 1), 3), weights), (((), ()), 1, 12))
        self.assertEqual(quotient(([(4, (0, 1)), (0, (7, 7))], (0, 0), 3), weights), (((4,), (1,)), 0, 0))


class Steps(unittest.TestCase):
    def test_power(self):
        for exponent in (0, 1, 2, -1, 100, -100, 2147483646, 2147483647, 10 ** 100, -10 ** 100 - 3):
            self.assertEqual(sums.power(exponent), pow(7, exponent % 2147483646, 2147483647))

    def test_the_root_has_all_powers(self):
        for prime in (2, 3, 7, 11, 31, 151, 331):
            self.assertEqual((sums.PRIME - 1) % prime, 0)
            self.assertNotEqual(sums.power((sums.PRIME - 1) // prime), 1)

    def test_thinned(self):
        self.assertEqual(sorted(sums.thinned((1, 2, 3), 1)), [(1, 2), (1, 2, 3), (1, 3), (2, 3)])
        for size in range(6):
            for most in range(8):
                found = sums.thinned(tuple(range(size)), most)
                self.assertEqual(len(set(found)), len(found))
                self.assertEqual(len(found), sums.ways(size, most))
                self.assertEqual(min(len(rest) for rest in found), max(0, size - most))

    def test_ranked(self):
        groups = {((5, 0), (7, 0)): {0: 1}, ((5, 0), (9, 0)): {1: 1}, ((5, 0), (5, 1), (9, 0)): {2: 1}}
        self.assertEqual(sums.ranked_products(groups), ({(2,): {0: 1}, (0,): {1: 1}, (0, 1): {2: 1}}, [9, 5, 7], [5]))
        self.assertEqual(sums.ranked_products({((5, 0), (5, 1)): {0: 1}}), ({(): {0: 1}}, [], [5, 5]))
        self.assertEqual(sums.ranked_products({}), ({}, [], []))

    def test_ranking_keeps_the_sum(self):
        chance = random.Random(9)
        for trial in range(300):
            groups = random_sum(chance)
            renamed, vectors, left_out = sums.ranked_products(groups)
            rest = {(): multiplied_out(with_vectors(renamed, vectors))}
            again = {tuple((vector, at) for at, vector in enumerate(left_out)): rest[()]}
            self.assertEqual(multiplied_out(again), multiplied_out(groups))

    def test_residue(self):
        chance = random.Random(2)
        for trial in range(300):
            groups, vectors = ranked_sum(random_sum(chance))
            terms = multiplied_out(with_vectors(groups, vectors))
            wanted = sum(amount * pow(7, place, sums.PRIME) for place, amount in terms.items()) % sums.PRIME
            self.assertEqual(sums.residue(groups, vectors), wanted)

    def test_trimmed(self):
        terms = {-3: 6, 0: -1, 2: 4, 5: 0, 9: 3}
        self.assertEqual(sums.trimmed(terms, sums.ALL), {-3: 6, 0: -1, 2: 4, 9: 3})
        self.assertEqual(sums.trimmed(terms, (3, None)), {0: 2, 2: 1})
        self.assertEqual(sums.trimmed(terms, (1, None)), {})
        self.assertEqual(sums.trimmed(terms, (0, 2)), {-3: 6, 0: -1, 2: 4})
        self.assertEqual(sums.trimmed(terms, (4, 1)), {-3: 2, 0: 3})
        self.assertEqual(sums.trimmed(terms, (0, -4)), {})

    def test_meeting_and_expanding_keep_the_sum(self):
        chance = random.Random(3)
        for trial in range(800):
            groups, vectors = ranked_sum(random_sum(chance))
            scope = (chance.choice([0, 0, 1, 2, 3, 5]), chance.choice([None, None, 0, 3, 6]))
            groups = {key: in_scope(terms, scope) for key, terms in groups.items() if in_scope(terms, scope)}
            wanted = in_scope(multiplied_out(with_vectors(groups, vectors)), scope)
            if groups:
                self.assertEqual(sums.expanded(sorted(groups), 0, groups, vectors, scope), wanted)
            for most in range(4):
                fewer = sums.met(groups, most, vectors, scope)
                self.assertLessEqual(len(fewer), len(groups))
                self.assertEqual(in_scope(multiplied_out(with_vectors(fewer, vectors)), scope), wanted)
            if groups:
                last = sums.gathered(groups, vectors, scope)
                self.assertLessEqual(len(last), 1)
                self.assertEqual(in_scope(multiplied_out(with_vectors(last, vectors)), scope), wanted)

    def test_the_closest_meet_first(self):
        groups = {(0, 1, 2): {0: 1}, (0, 1, 3): {0: 1}, (4, 5, 6): {0: 1}, (4, 5): {9: 1}}
        vectors = [10, 20, 30, 40, 50, 60, 70]
        self.assertEqual(sums.met(groups, 0, vectors, sums.ALL), groups)
        self.assertEqual(sums.met(groups, 1, vectors, sums.ALL), {
            (0, 1): {0: 2, 30: -1, 40: -1}, (4, 5): {0: 1, 70: -1, 9: 1}})

    def test_groups_that_cancel_are_gone(self):
        groups = {(0, 1): {0: 1, 30: -1}, (0, 2): {0: -1, 20: 1}, (3, 4): {7: 1}}
        self.assertEqual(sums.met(groups, 1, [10, 20, 30, 40, 50], sums.ALL), {(3, 4): {7: 1}})
        groups = {(0, 1): {0: 1}, (0, 2): {0: 2, 20: 1}, (3, 4): {7: 1}}
        self.assertEqual(sums.met(groups, 1, [10, 20, 30, 40, 50], (3, None)), {
            (0,): {30: 1, 50: 2}, (3, 4): {7: 1}})


class Ways(unittest.TestCase):
    def decided(self):
        chance = random.Random(4)
        for trial in range(400):
            axes = chance.randint(1, 3)
            one = [small_nest(chance, axes) for k in range(chance.randint(1, 4))]
            other = [new for nest in one for new in rewritten(chance, nest)]
            other = [new for nest in other for new in rewritten(chance, nest)]
            if trial & 1:
                loops, place, amount = other.pop() if other else one[0]
                other.append((loops, place, amount + chance.randint(0, 1)))
            wanted = round_by_round(one) == round_by_round(other)
            rows = (Program(axes, one) - Program(axes, other)).nests()
            self.assertIs(sums.is_zero(numerator(rows, axes)), wanted)
        for trial in range(300):
            groups = random_sum(chance)
            rest = multiplied_out(groups)
            self.assertIs(sums.is_zero(groups), not rest)
            # The same sum, less its terms spelled out, in an order in which a short key stands behind longer ones.
            if rest and () not in groups:
                self.assertIs(sums.is_zero({**groups, (): {place: -amount for place, amount in rest.items()}}), True)

    def test_as_it_is(self):
        self.decided()

    def test_without_the_glance(self):
        with mock.patch.object(sums, "residue", lambda groups, vectors: 0):
            self.decided()

    def test_without_meetings(self):
        with mock.patch.object(sums, "residue", lambda groups, vectors: 0), mock.patch.object(sums, "MOST_KEYS", 0):
            self.decided()

    def test_with_few_meetings(self):
        with mock.patch.object(sums, "residue", lambda groups, vectors: 0), mock.patch.object(sums, "MOST_KEYS", 20):
            self.decided()

    def test_nothing(self):
        self.assertIs(sums.is_zero({}), True)
        self.assertIs(sums.is_zero({(): {0: 1}}), False)
        self.assertIs(sums.is_zero({((3, 0),): {0: 1, 2: 1}, ((2, 0),): {0: -1, 1: -1, 2: -1}}), False)
        self.assertIs(sums.is_zero({((3, 0),): {0: 1, 1: 1}, ((2, 0),): {0: -1, 1: -1, 2: -1}}), True)


if __name__ == "__main__":
    unittest.main()
