"""[3], [23], [30]: which programs are equal."""

import itertools
import random
import time
import unittest

from addnests.nests import blocked, split, spread, swapped, turned, unrolled
from addnests.programs import Program
from tests.tools import BIG, misfits, round_by_round

SECONDS = 20


def rewritten(chance, nest):
    """A nest written otherwise in some way, as a list of nests."""
    if not nest[0]:
        return [nest]
    at = chance.randrange(len(nest[0]))
    count = nest[0][at][0]
    return chance.choice([
        lambda: split(nest, at, chance.randint(0, count)),
        lambda: blocked(nest, at, chance.randint(1, 4)),
        lambda: unrolled(nest, at, chance.randint(1, 4)),
        lambda: spread(nest, at) if count <= 60 else [nest],
        lambda: [turned(nest, at)],
        lambda: [swapped(nest, at, chance.randrange(len(nest[0])))],
    ])()


def small_nest(chance, axes):
    """A nest of few rounds."""
    def cell():
        return tuple([chance.randint(-2, 2) for axis in range(axes)])
    return ([(chance.choice([0, 1, 2, 2, 3, 4]), cell()) for k in range(chance.randint(0, 3))], cell(), chance.randint(-2, 3))


def number(chance, digits):
    """A number of so many digits."""
    return chance.randrange(10 ** (digits - 1), 10 ** digits)


def vector(chance, axes, digits):
    """A step or cell of numbers of so many digits, of both signs."""
    return tuple([chance.choice([-1, 1]) * number(chance, digits) for axis in range(axes)])


def changed(program, at, amount):
    """The program with another amount added once where a nest begins."""
    return program + Program(program.axes, [([], program.nests()[at][1], amount)])


class Small(unittest.TestCase):
    def test_against_round_by_round(self):
        chance = random.Random(1)
        equal = 0
        for trial in range(4000):
            axes = chance.randint(1, 3)
            one = [small_nest(chance, axes) for k in range(chance.randint(0, 3))]
            other = [small_nest(chance, axes) for k in range(chance.randint(0, 2))]
            if trial & 1:
                other = [new for nest in one for new in rewritten(chance, nest)]
                other = [new for nest in other for new in rewritten(chance, nest)]
                chance.shuffle(other)
            if trial & 2 and other:
                loops, place, amount = other[0]
                other[0] = (loops, place, amount + 1)
            wanted = round_by_round(one) == round_by_round(other)
            with self.subTest(one=one, other=other):
                self.assertIs(Program(axes, one) == Program(axes, other), wanted)
                self.assertIs(Program(axes, one) != Program(axes, other), not wanted)
            equal += wanted
        self.assertGreater(equal, 1000)
        self.assertLess(equal, 3000)

    def test_all_tiny_programs(self):
        nests = [([(count, (step,))], (place,), amount) for count, step, place, amount in itertools.product(
            (2, 3), (-2, 1, 2), (0, 1), (1, -1))]
        pairs = [[one, other] for one, other in itertools.combinations(nests, 2)]
        known = [(Program(1, pair), round_by_round(pair)) for pair in pairs]
        for one, left in known[::5]:
            for other, right in known[::3]:
                self.assertIs(one == other, left == right)

    def test_programs_that_add_nothing(self):
        empty = Program(2, [])
        for nests in [
            [([], (1, 1), 0)],
            [([(0, (1, 0)), (BIG, (0, 1))], (0, 0), 5)],
            [([(4, (1, 1))], (0, 0), 2), ([(4, (-1, -1))], (3, 3), -2)],
            [([(BIG, (0, 0))], (3, 3), 1), ([], (3, 3), -BIG)],
        ]:
            self.assertIs(Program(2, nests) == empty, True)
            self.assertIs(empty == Program(2, nests), True)
        for nests in [[([], (0, 0), 1)], [([(BIG, (0, 0))], (3, 3), 1), ([], (3, 3), 1 - BIG)]]:
            self.assertIs(Program(2, nests) == empty, False)
        self.assertIs(empty == Program(2, []), True)

    def test_cells_are_kept_apart(self):
        # Cells become single integers inside: no two of them may become the same one.
        for axes in (2, 3):
            far = (0,) * (axes - 2)
            cells = [(x,) + far + (y,) for x in (0, 1, 2) for y in range(-12, 13)]
            for one, other in itertools.combinations(cells, 2):
                self.assertIs(Program(axes, [([], one, 1)]) == Program(axes, [([], other, 1)]), False)
            middle = [(0, 0, 0), (1, 0, 0), (0, 1, 0), (0, 2, 1)][:2 * axes - 2]
            cells = [cell[:axes] for cell in middle] + [(0, 3), (1, -3)] * (axes == 2) + [(1, -9, 4)] * (axes == 3)
            steps = [(1, -4) + far, (0, 5) + far, (1, 2) + far, (-1, 3) + far]
            nests = [([(count, step)], cell, 1) for count in (2, 3) for step in steps for cell in cells]
            known = [(Program(axes, [nest]), round_by_round([nest])) for nest in nests]
            for (one, left), (other, right) in itertools.combinations(known, 2):
                self.assertIs(one == other, left == right)

    def test_sums_with_a_root_at_the_glance(self):
        # Programs that part although the quick test by one residue cannot tell them apart.
        self.assertIs(Program(1, [([], (1,), 1)]) == Program(1, [([], (0,), 7)]), False)
        self.assertIs(Program(1, [([], (0,), 1)]) == Program(1, [([], (2147483646,), 1)]), False)
        self.assertIs(Program(1, [([], (0,), 2147483647)]) == Program(1, []), False)
        one = Program(1, [([(2147483646, (1,)), (3, (5,))], (0,), 1)])
        self.assertIs(one == one * 1, True)
        self.assertIs(one == Program(1, []), False)

    def test_other_objects(self):
        program = Program(1, [([], (0,), 1)])
        for other in misfits() + [0, 1, [], (), [([], (0,), 1)], (1, [([], (0,), 1)])]:
            self.assertIs(program == other, False)
            self.assertIs(other == program, False)
            self.assertIs(program != other, True)

    def test_unlike_axes(self):
        for one, other in itertools.permutations((1, 2, 3), 2):
            self.assertIs(Program(one, []) == Program(other, []), False)
            self.assertIs(Program(one, []) != Program(other, []), True)

    def test_comparing_changes_nothing(self):
        nests = [([(3, (1,)), (0, (0,)), (2, (-1,))], (5,), 2)]
        one, other = Program(1, nests), Program(1, nests)
        self.assertTrue(one == other)
        self.assertEqual((one.nests(), other.nests()), (nests, nests))


class Huge(unittest.TestCase):
    def both(self, one, other, equal=True):
        """Compare, each way round, within seconds."""
        begun = time.monotonic()
        self.assertIs(one == other, equal)
        self.assertIs(other == one, equal)
        self.assertLess(time.monotonic() - begun, SECONDS)

    def test_written_otherwise(self):
        nest = ([(BIG, (1, 0)), (BIG + 7, (3, -5)), (10 ** 30, (0, 2))], (-5, BIG), 3)
        whole = Program(2, [nest])
        others = [split(nest, 0, k) for k in (0, 1, 10 ** 39, BIG)]
        others += [blocked(nest, at, size) for at in range(3) for size in (1, 10, 10 ** 20 + 1, 10 ** 41)]
        others += [unrolled(nest, at, size) for at in range(3) for size in (1, 7, 20)]
        others += [[turned(nest, 1)], [swapped(nest, 0, 2)]]
        for other in others:
            self.both(whole, Program(2, other))
            self.both(whole, changed(Program(2, other), 0, 1), False)
            self.both(whole, Program(2, other).shifted((0, 1)), False)

    def test_near_misses(self):
        row = ([(BIG, (1,))], (0,), 1)
        whole = Program(1, [row])
        for count, step, place, amount in [(BIG - 1, 1, 0, 1), (BIG + 1, 1, 0, 1), (BIG, 2, 0, 1), (BIG, 1, 1, 1),
                                           (BIG, 1, 0, -1), (BIG, -1, BIG, 1), (BIG, 0, 0, 1)]:
            self.both(whole, Program(1, [([(count, (step,))], (place,), amount)]), False)
        self.both(whole, Program(1, [([(BIG, (-1,))], (BIG - 1,), 1)]))
        two = Program(1, [([(BIG, (2,)), (BIG, (3,))], (0,), 1)])
        self.both(two, Program(1, [([(BIG, (3,)), (BIG, (2,))], (0,), 1)]))
        self.both(two, Program(1, [([(BIG, (5,)), (BIG, (1,))], (0,), 1)]), False)

    def test_loops_that_meet(self):
        # Six rounds of 1 are two of 3 with three of 1, and three of 2 with two of 1, everywhere and at any size.
        size = 6 * BIG
        one = Program(1, [([(size // 3, (3,)), (3, (1,))], (0,), 1)])
        other = Program(1, [([(size // 2, (2,)), (2, (1,))], (0,), 1)])
        self.both(one, other)
        self.both(one * other, Program(1, [([(size, (1,)), (size, (1,))], (0,), 1)]))
        # A triangle's two halves and its border make up the square.
        steps = ((1, 0), (0, 1), (1, 1))
        square = Program(2, [([(BIG, steps[0]), (BIG, steps[1])], (0, 0), 1)])
        ends = Program(2, [([], (0, 0), 1), ([], (BIG, 0), -1)]) * Program(2, [([], (0, 0), 1), ([], (0, BIG), -1)])
        differences = [Program(2, [([], (0, 0), 1), ([], step, -1)]) for step in steps]
        self.both(square * differences[0] * differences[1], ends)
        self.both(square * differences[0] * differences[2], ends, False)

    def test_operators_agree(self):
        one = Program(2, [([(BIG, (1, 2)), (7, (0, 1))], (0, 0), 2), ([], (5, 5), -1)])
        other = Program(2, [([(BIG, (3, -1))], (1, 1), 1), ([(BIG, (0, 0))], (2, 2), 1)])
        self.both(one * other, other * one)
        self.both(one + other, other + one)
        self.both((one + other) * (one - other), one * one - other * other)
        self.both(one - one, Program(2, []))
        self.both(one.looped(3, (1, 1)), one + one.shifted((1, 1)) + one.shifted((2, 2)))
        self.both(one.looped(0, (1, 1)), Program(2, []))
        self.both(one.mapped([[1000, 1]]) * other.mapped([[1000, 1]]), (one * other).mapped([[1000, 1]]))
        self.both(one.shifted((1, 0)), one, False)
        self.both(3 * one, one + one + one)

    def test_at_the_limits(self):
        for axes in (1, 2, 3):
            chance = random.Random(axes)
            steps = [vector(chance, axes, 100) for k in range(12)]
            nests = [([(number(chance, 100), step) for step in chance.sample(steps, 6)], vector(chance, axes, 100),
                      number(chance, 100)) for k in range(15)]
            one = Program(axes, nests)
            other = Program(axes, [new for at, nest in enumerate(nests) for new in split(nest, at % 6, 10 ** 98)])
            self.both(one, other)
            loops, place, amount = nests[14]
            self.both(other, Program(axes, nests[:14] + [(loops, place, amount + 1)]), False)
            self.both(other, Program(axes, nests[:14] + [(loops, vector(chance, axes, 100), amount)]), False)
            loops = loops[:5] + [(loops[5][0] + 1, loops[5][1])]
            self.both(other, Program(axes, nests[:14] + [(loops, place, amount)]), False)

    def test_returned_programs_at_the_limits(self):
        for axes in (1, 3):
            chance = random.Random(10 + axes)
            nests = [[], []]
            for half in range(2):
                steps = [vector(chance, axes, 100) for k in range(6)]
                for k in range(10):
                    loops = [(number(chance, 100), step) for step in steps]
                    nests[half].append((loops, vector(chance, axes, 100), number(chance, 100)))
            one, other = Program(axes, nests[0]), Program(axes, nests[1])
            pieces = Program(axes, [new for nest in nests[0] for new in split(nest, 2, 10 ** 98)])
            bits = Program(axes, [new for nest in nests[1] for new in split(nest, 5, 10 ** 98)])
            self.assertEqual(len(pieces * bits), 400)
            self.both(pieces * bits, one * other)
            self.both(pieces * bits, changed(one * other, 99, 1), False)
            self.both(pieces * bits, bits * pieces)

    def test_unrolled_into_400_nests(self):
        chance = random.Random(5)
        steps = [vector(chance, 2, 98) for k in range(6)]
        nests = [([(number(chance, 98), step) for step in steps], vector(chance, 2, 98), k + 1) for k in range(20)]
        parts = [new for at, nest in enumerate(nests) for new in unrolled(nest, at % 6, 20)]
        self.assertEqual(len(parts), 400)
        self.both(Program(2, nests), Program(2, parts))
        self.both(Program(2, nests), Program(2, parts[:-1] + [([], (0, 0), 1)]), False)

    def test_numbers_of_400_digits(self):
        chance = random.Random(6)
        loops = [(number(chance, 400), vector(chance, 3, 400)) for k in range(12)]
        nest = (loops, vector(chance, 3, 400), number(chance, 400))
        other = nest
        for at in range(12):
            other = turned(other, at)
        self.both(Program(3, [nest]), Program(3, [swapped(other, 0, 11)]))
        self.both(Program(3, [nest]), Program(3, split(nest, 7, 10 ** 399)))
        self.both(Program(3, [nest]), Program(3, [turned(nest, 7)]).shifted((0, 0, 1)), False)

    def test_when_nothing_meets_early(self):
        # The full product of twelve differences, against its 4096 terms put together again in halves.
        chance = random.Random(8)
        steps = [vector(chance, 3, 100) for k in range(12)]
        differences = [Program(3, [([], (0, 0, 0), 1), ([], step, -1)]) for step in steps]
        loops = [(number(chance, 100), step) for step in steps]
        ends = [Program(3, [([], (0, 0, 0), 1), ([], tuple([count * far for far in step]), -1)]) for count, step in loops]
        left, right = Program(3, [(loops[:6], (0, 0, 0), 1)]), Program(3, [(loops[6:], (0, 0, 0), 1)])
        for difference in differences[:6]:
            left = left * difference
        whole = ends[0]
        for end in ends[1:6]:
            whole = whole * end
        self.both(left, whole)
        self.both(left * right, right * whole)
        self.both(left * right, whole, False)


if __name__ == "__main__":
    unittest.main()
