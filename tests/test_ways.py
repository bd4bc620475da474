"""[60] to [64]: the inside of counting rounds: floors, progressions, loops on one axis and on several."""

import itertools
import random
import unittest

from addnests.axis import upwards, ways_to, ways_up_to
from addnests.floors import congruent, divided_with, floors, members_between
from addnests.straight import is_straight, number_reaching
from addnests.ways import corner, ways
from tests.tools import BIG


def sums_of_rounds(loops, axes):
    """For each way to choose a round of each loop the cell to which it leads."""
    cells = []
    for rounds in itertools.product(*[range(count) for count, step in loops]):
        cells.append(tuple(sum(done * step[axis] for done, (count, step) in zip(rounds, loops)) for axis in range(axes)))
    return cells


class Numbers(unittest.TestCase):
    def test_floors(self):
        for count, times, plus, over in itertools.product(range(7), range(-9, 10, 2), range(-9, 10, 3), range(1, 8)):
            wanted = sum((times * i + plus) // over for i in range(count))
            self.assertEqual(floors(count, times, plus, over), wanted)

    def test_divided_with(self):
        for one, other in itertools.product(range(40), repeat=2):
            shared, factor = divided_with(one, other)
            if other:
                self.assertEqual((one * factor - shared) % other, 0)
            else:
                self.assertEqual(one * factor, shared)
            self.assertTrue(shared == 0 or (one % shared == 0 and other % shared == 0))
        self.assertEqual(divided_with(0, 0)[0], 0)

    def test_congruent(self):
        for factor, due, over in itertools.product(range(-12, 13), range(-12, 13), range(1, 13)):
            found = [number for number in range(over) if (factor * number - due) % over == 0]
            progression = congruent(factor, due, over)
            if not found:
                self.assertIsNone(progression)
                continue
            member, period = progression
            self.assertEqual(list(range(member, over, period)), found)

    def test_members_between(self):
        for member, period, low, high in itertools.product(range(-4, 9), range(1, 6), range(-6, 7), range(-8, 9)):
            found = [number for number in range(low, high + 1) if (number - member) % period == 0]
            least, many = members_between((member, period), low, high)
            self.assertEqual(many, len(found))
            if found:
                self.assertEqual(least, found[0])


class OneAxis(unittest.TestCase):
    def test_upwards(self):
        least, loops = upwards([(3, -5), (4, 2), (1, -9), (2, -1)])
        self.assertEqual((least, loops), (-11, [(3, 5), (4, 2), (1, 9), (2, 1)]))
        self.assertEqual(upwards([]), (0, []))

    def test_ways_up_to_all_small_ones(self):
        for counts in itertools.product((1, 2, 5), repeat=2):
            for strides in itertools.product((1, 3, 4, 10), repeat=2):
                loops = list(zip(counts, strides))
                reached = [cell[0] for cell in sums_of_rounds([(count, (far,)) for count, far in loops], 1)]
                for top in range(-3, max(reached) + 4):
                    self.assertEqual(ways_up_to(loops, top), len([one for one in reached if one <= top]))
        self.assertEqual([ways_up_to([], top) for top in (-1, 0, 1)], [0, 1, 1])
        self.assertEqual([ways_up_to([(3, 2)], top) for top in range(-1, 6)], [0, 1, 1, 2, 2, 3, 3])

    def test_ways_to_all_small_ones(self):
        for counts in itertools.product((1, 2, 4), repeat=3):
            for strides in itertools.combinations_with_replacement((-6, -1, 2, 4, 9), 3):
                loops = list(zip(counts, strides))
                reached = [cell[0] for cell in sums_of_rounds([(count, (far,)) for count, far in loops], 1)]
                for target in range(min(reached) - 2, max(reached) + 3):
                    self.assertEqual(ways_to(loops, target), reached.count(target), (loops, target))

    def test_ways_to_at_random(self):
        chance = random.Random(1)
        for trial in range(2000):
            loops = [(chance.randint(1, 12), chance.choice([-1, 1]) * chance.randint(1, 30))
                     for k in range(chance.randint(0, 3))]
            reached = [cell[0] for cell in sums_of_rounds([(count, (far,)) for count, far in loops], 1)]
            for target in chance.sample(reached, min(3, len(reached))) + [chance.randint(-50, 200)]:
                self.assertEqual(ways_to(loops, target), reached.count(target), (loops, target))


class SeveralAxes(unittest.TestCase):
    def test_corner(self):
        self.assertIsNone(corner([(1,), (2,), (3,)], 1))
        self.assertIsNone(corner([(2, 4, -6), (-1, -2, 3), (0, 0, 0)], 3))
        self.assertEqual(corner([(2, 4, 0), (1, 2, 0), (1, 2, 7)], 3), (0, 2, 1, (0, 2)))
        self.assertEqual(corner([(0, 0, 0), (0, 1, 0), (0, 0, 1)], 3), (1, 2, 0, (1, 2)))

    def test_ways_of_each_rank(self):
        chance = random.Random(2)
        ranks = [0, 0]
        for trial in range(3000):
            axes = chance.randint(1, 3)
            base = [tuple(chance.randint(-3, 3) for axis in range(axes)) for k in range(chance.randint(1, 3))]
            loops = []
            for k in range(chance.randint(0, 4)):
                step = tuple(chance.choice([-2, -1, 1, 3]) * number for number in chance.choice(base))
                if any(step):
                    loops.append((chance.randint(2, 6), step))
            cells = sums_of_rounds(loops, axes)
            seen = chance.sample(cells, min(3, len(cells)))
            seen.append(tuple(number + chance.randint(-1, 1) for number in seen[0]))
            for cell in seen:
                self.assertEqual(ways(loops, cell), cells.count(cell), (loops, cell))
            if len(loops) == 3:
                ranks[corner([step for count, step in loops], axes) is None] += 1
        self.assertGreater(min(ranks), 100)

    def test_no_loops(self):
        self.assertEqual(ways([], (0, 0)), 1)
        self.assertEqual(ways([], (0, 1)), 0)

    def test_planes_that_meet_far_away(self):
        loops = [(BIG, (3, 1)), (BIG, (1, 3)), (BIG, (1, 1))]
        # Where 3 a + b + c and a + 3 b + c are equal, a is b, and both numbers are 4 a + c.
        self.assertEqual(ways(loops, (8 * 7, 8 * 7)), 15)
        self.assertEqual(ways(loops, (8 * 7 + 2, 8 * 7)), 14)
        self.assertEqual(ways(loops, (8 * 7 + 1, 8 * 7)), 0)
        self.assertEqual(ways(loops, (2 * BIG, 2 * BIG)), BIG // 2 - (BIG + 4) // 4 + 1)
        loops = [(BIG, (3, 1, 5)), (BIG, (1, 3, 5)), (BIG, (1, 1, 0))]
        self.assertEqual(ways(loops, (56, 56, 50)), 1)
        self.assertEqual(ways(loops, (56, 56, 55)), 0)
        self.assertEqual(ways(loops, (56, 56, 0)), 1)
        self.assertEqual(ways(loops, (56, 56, 140)), 1)
        self.assertEqual(ways(loops, (56, 56, 150)), 0)


class Straight(unittest.TestCase):
    def test_is_straight(self):
        for straight, loops in [
            (True, []),
            (True, [(2, (3, 0)), (9, (0, -1)), (2, (-2, 0)), (2, (0, 5))]),
            (True, [(1, (1, 1)), (0, (2, 2)), (9, (0, 0)), (1, (1, 0))] + [(2, (0, 1)), (2, (0, 1))]),
            (False, [(2, (3, 0)), (9, (0, -1)), (2, (3, 0)), (2, (1, 0))]),
            (False, [(0, (0, 0)), (2, (1, 1))]),
            (False, [(0, (1, 0)), (2, (-1, 4))]),
        ]:
            self.assertIs(is_straight((loops, (0, 0), 1)), straight, loops)

    def test_number_reaching(self):
        lanes = [(5, [(3, [(4, 2)])]), (1, [(0, [(100, 1)])])]
        sums = [sum(5 for k in range(4) if 3 + 2 * k <= top) + min(100, max(0, top + 1)) for top in range(-1, 101)]
        for wanted in range(1, 121):
            first = [top for top in range(-1, 101) if sums[top + 1] >= wanted][0]
            self.assertEqual(number_reaching(lanes, wanted, -1, 99), first)


if __name__ == "__main__":
    unittest.main()
