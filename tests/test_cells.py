"""[60] to [64]: what cells get."""

import random
import time
import unittest

from addnests.cells import amount_at, amount_in, cell_reaching, common, cuts, floor_sum
from addnests.compare import filled
from addnests.errors import InvalidCell, InvalidNumber, InvalidProgram, Negative, NotStraight, UnlikeAxes
from addnests.families import Family
from addnests.nests import blocked, split, swapped, turned, unrolled
from addnests.programs import Program
from tests.test_equal import number, vector
from tests.tools import BIG, misfits, not_numbers, raised, round_by_round

SECONDS = 20


def a_nest(chance, axes, most, straight=False):
    """A nest of few rounds with at most so many loops, all of which may count, on some axes often two alike."""
    loops = []
    taken = [0] * axes
    for k in range(chance.randint(0, most)):
        count = chance.choice([0, 1, 2, 2, 3, 4, 5, 7])
        step = [chance.randint(-4, 4) for axis in range(axes)]
        if straight:
            axis = chance.randrange(axes)
            step = [step[axis] if other == axis else 0 for other in range(axes)]
            taken[axis] += count > 1 and step[axis] != 0
            if taken[axis] > 2:
                continue
        elif loops and chance.random() < 0.3:
            step = [chance.randint(-2, 2) * far for far in loops[0][1]]
        loops.append((count, tuple(step)))
    return (loops, tuple(chance.randint(-3, 3) for axis in range(axes)), chance.randint(-2, 3))


def not_programs():
    """Values that are no programs."""
    return misfits() + [0, 1, [], (), ([], (0,), 1), [([], (0,), 1)]]


def not_cells(axes):
    """Values that are no cells of so many axes."""
    return misfits() + [0, 1, [], (), [1] * axes, (1,) * (axes + 1), (True,) * axes, (None,) * axes, Program(axes, [])]


class AmountAt(unittest.TestCase):
    def test_against_round_by_round(self):
        chance = random.Random(1)
        for trial in range(2000):
            axes = chance.randint(1, 3)
            nests = [a_nest(chance, axes, 3) for k in range(chance.randint(0, 3))]
            program = Program(axes, nests)
            sums = round_by_round(nests)
            cells = chance.sample(sorted(sums), min(5, len(sums)))
            cells += [tuple(chance.randint(-9, 9) for axis in range(axes)) for k in range(3)]
            for cell in cells:
                self.assertEqual(amount_at(program, cell), sums.get(cell, 0), (nests, cell))

    def test_loops_that_do_not_count(self):
        idle = [(BIG, (0, 0)), (1, (5, 5)), (1, (0, 0)), (3, (0, 0))]
        nest = ([(BIG, (1, 0)), (BIG, (0, 1)), (BIG, (1, 1))] + idle, (0, 0), -2)
        self.assertEqual(amount_at(Program(2, [nest]), (7, 5)), -2 * 6 * BIG * 3)
        nothing = ([(BIG, (1,))] * 6 + [(0, (0,))], (0,), 1)
        self.assertEqual(amount_at(Program(1, [nothing, ([], (4,), 9)]), (4,)), 9)
        self.assertEqual(amount_at(Program(1, [([(BIG, (1,))] * 6, (0,), 0)]), (4,)), 0)
        self.assertEqual(amount_at(Program(1, []), (4,)), 0)
        self.assertEqual(amount_at(Program(2, [([(4, (0, 0))], (1, 1), 3)]), (1, 1)), 12)
        self.assertEqual(amount_at(Program(2, [([(4, (0, 0))], (1, 1), 3)]), (1, 0)), 0)

    def test_known_amounts(self):
        triangle = Program(1, [([(BIG, (1,))] * 3, (0,), 1)])
        for top in (0, 1, 10 ** 20, BIG - 1):
            self.assertEqual(amount_at(triangle, (top,)), (top + 1) * (top + 2) // 2)
            self.assertEqual(amount_at(triangle, (3 * (BIG - 1) - top,)), (top + 1) * (top + 2) // 2)
        self.assertEqual(amount_at(triangle, (BIG,)), (BIG + 1) * (BIG + 2) // 2 - 3)
        self.assertEqual([amount_at(triangle, (top,)) for top in (-1, 3 * BIG - 2)], [0, 0])
        # Coins of 6, 10 and 15: by rounds of 30 all of one kind.
        coins = Program(1, [([(BIG, (6,)), (BIG, (10,)), (BIG, (15,))], (0,), 1)])
        for many in (0, 1, 2, 10 ** 30):
            self.assertEqual(amount_at(coins, (30 * many,)), (many + 1) * (many + 2) // 2)
            self.assertEqual(amount_at(coins, (30 * many + 29,)), many * (many + 1) // 2)
        flat = triangle.mapped([[1], [-2], [0]]).shifted((5, 5, 5))
        self.assertEqual(amount_at(flat, (5 + BIG, 5 - 2 * BIG, 5)), (BIG + 1) * (BIG + 2) // 2 - 3)
        for cell in [(5 + BIG, 5 + 2 * BIG, 5), (5 + BIG, 5 - 2 * BIG, 6), (6 + BIG, 5 - 2 * BIG, 5)]:
            self.assertEqual(amount_at(flat, cell), 0)

    def test_programs_written_otherwise(self):
        chance = random.Random(2)
        for trial in range(60):
            axes = chance.randint(1, 3)
            loops = [(number(chance, 50), vector(chance, axes, 2)) for k in range(chance.randint(1, 3))]
            if trial & 1:
                loops = [(count, tuple(chance.randint(1, 9) * far for far in loops[0][1])) for count, step in loops]
            nest = (loops, vector(chance, axes, 40), 7)
            rounds = [chance.randrange(count) for count, step in loops]
            cell = tuple(far + sum(done * step[axis] for done, (count, step) in zip(rounds, loops))
                         for axis, far in enumerate(nest[1]))
            wanted = amount_at(Program(axes, [nest]), cell)
            self.assertGreaterEqual(wanted, 7)
            at = chance.randrange(len(loops))
            for other in (split(nest, at, rounds[at]), unrolled(nest, at, 7), [turned(nest, at)], [swapped(nest, 0, at)]):
                self.assertEqual(amount_at(Program(axes, other), cell), wanted)
            if len(loops) < 3:
                self.assertEqual(amount_at(Program(axes, blocked(nest, at, 10 ** 20)), cell), wanted)

    def test_errors_in_order(self):
        for value in not_programs():
            self.assertIs(raised(InvalidProgram, amount_at, value, None).value, value)
        for axes in (1, 2, 3):
            for value in not_cells(axes):
                self.assertIs(raised(InvalidCell, amount_at, Program(axes, []), value).value, value)
        self.assertEqual(amount_at(cell=(1,), program=Program(1, [([], (1,), 4)])), 4)

    def test_at_the_limits(self):
        begun = time.monotonic()
        for axes, digits, many in [(1, 100, 30), (2, 100, 30), (3, 100, 30), (1, 400, 400), (3, 400, 400)]:
            chance = random.Random(axes)
            steps = [vector(chance, axes, digits) for k in range(3)]
            if many == 30 and axes > 1:
                steps = [tuple(far * times for far in vector(random.Random(9), axes, 90)) for times in (1, -7, 12)]
            nests = []
            for k in range(many):
                loops = [(number(chance, 100), step) for step in steps]
                nests.append((loops, vector(chance, axes, digits), number(chance, 100)))
            loops, place, amount = nests[0]
            cell = tuple(far + sum(count // 3 * step[axis] for count, step in loops) for axis, far in enumerate(place))
            self.assertGreaterEqual(amount_at(Program(axes, nests), cell), amount)
            self.assertEqual(amount_at(Program(axes, nests), tuple(10 ** 501 + far for far in cell)), 0)
        self.assertLess(time.monotonic() - begun, SECONDS)


class FloorSum(unittest.TestCase):
    def test_small_ones(self):
        for count in range(0, 9):
            for times in range(-12, 13, 3):
                for plus in range(-11, 12, 2):
                    for over in range(1, 9):
                        wanted = sum((times * i + plus) // over for i in range(count))
                        self.assertEqual(floor_sum(count, times, plus, over), wanted)

    def test_great_ones(self):
        chance = random.Random(1)
        for digits in (30, 100, 400):
            count, times, plus, over = [number(chance, digits) for k in range(4)]
            there = floor_sum(count, times, plus, over)
            # The opposite of each term, rounded down, is one less but where nothing is left.
            self.assertEqual(floor_sum(count, -times, -plus - 1, over), -there - count)
            self.assertEqual(floor_sum(count, -times, times * (count - 1) + plus, over), there)
            self.assertEqual(floor_sum(count, times + over, plus - over, over), there + count * (count - 1) // 2 - count)
            self.assertEqual(floor_sum(count, 0, plus, over), count * (plus // over))
        self.assertEqual(floor_sum(BIG, 1, 0, 10 ** 20), 10 ** 20 * (10 ** 20 * (10 ** 20 - 1) // 2))
        self.assertEqual(floor_sum(count=0, times=5, plus=-7, over=1), 0)

    def test_errors_in_order(self):
        for value in not_numbers() + [-1, -BIG]:
            self.assertIs(raised(InvalidNumber, floor_sum, value, None, None, 0).value, value)
        for value in not_numbers():
            self.assertIs(raised(InvalidNumber, floor_sum, 0, value, None, 0).value, value)
            self.assertIs(raised(InvalidNumber, floor_sum, 0, 0, value, 0).value, value)
        for value in not_numbers() + [0, -1, -BIG]:
            self.assertIs(raised(InvalidNumber, floor_sum, 0, 0, 0, value).value, value)


class AmountIn(unittest.TestCase):
    def test_against_round_by_round(self):
        chance = random.Random(3)
        for trial in range(1500):
            axes = chance.randint(1, 3)
            nests = [a_nest(chance, axes, 5, straight=True) for k in range(chance.randint(0, 3))]
            program = Program(axes, nests)
            sums = round_by_round(nests)
            for k in range(4):
                low = tuple(chance.randint(-12, 9) for axis in range(axes))
                high = tuple(far + chance.randint(-1, 20) for far in low)
                inside = [amount for cell, amount in sums.items()
                          if all(first <= far <= last for first, far, last in zip(low, cell, high))]
                self.assertEqual(amount_in(program, low, high), sum(inside), (nests, low, high))

    def test_boxes(self):
        program = Program(2, [([(BIG, (1, 0)), (BIG, (0, 3)), (7, (0, -1)), (2, (-5, 0))], (0, 0), 2), ([], (4, 4), 5)])
        least, most = (-5, -6), (BIG, 3 * BIG)
        self.assertEqual(amount_in(program, least, most), program.total())
        self.assertEqual(amount_in(program, (-10 ** 99, -10 ** 99), (10 ** 99, 10 ** 99)), program.total())
        for middle in (-6, 0, 17, 10 ** 39, BIG):
            left = amount_in(program, least, (middle, most[1]))
            self.assertEqual(left + amount_in(program, (middle + 1, least[1]), most), program.total())
            below = amount_in(program, least, (most[0], middle))
            self.assertEqual(below + amount_in(program, (least[0], middle + 1), most), program.total())
        for cell in [(4, 4), (10 ** 20, 10 ** 20), (0, -6), (-5, -6), (3, 10 ** 40)]:
            alone = Program(1, [([(BIG, (3,)), (7, (-1,))], (0,), 1)])
            wanted = 2 * amount_at(alone, cell[1:]) * ((0 <= cell[0] < BIG) + (-5 <= cell[0] < BIG - 5))
            self.assertEqual(amount_in(program, cell, cell), wanted + 5 * (cell == (4, 4)))

    def test_empty_boxes(self):
        program = filled((0, 0, 0), [5, 5, 5])
        self.assertEqual(amount_in(program, (0, 0, 0), (4, 4, 4)), 125)
        for low, high in [((0, 0, 1), (4, 4, 0)), ((1, 0, 0), (0, 4, 4)), ((0, 9, 0), (4, -9, 4)), ((4, 4, 4), (0, 0, 0)),
                          ((5, 0, 0), (9, 4, 4)), ((0, -3, 0), (4, -1, 4))]:
            self.assertEqual(amount_in(program, low, high), 0)
        self.assertEqual(amount_in(Program(1, []), (0,), (9,)), 0)
        self.assertEqual(amount_in(Program(1, [([(0, (1,))], (0,), 1)]), (0,), (9,)), 0)

    def test_not_straight(self):
        good = ([(2, (1, 0)), (2, (1, 0)), (2, (0, 1)), (1, (1, 1)), (0, (1, 1)), (5, (0, 0))], (0, 0), 1)
        for bad in [
            ([(2, (1, 1))], (0, 0), 1),
            ([(2, (1, 0)), (2, (2, 0)), (2, (3, 0))], (0, 0), 1),
            ([(2, (1, -1)), (0, (0, 0))], (0, 0), 1),
            ([(2, (0, 1)), (2, (0, 2)), (2, (0, -1)), (1, (0, 1))], (0, 0), 0),
        ]:
            error = raised(NotStraight, amount_in, Program(2, [good, good, bad, good, bad]), (0, 0), (-1, -1))
            self.assertEqual(error.place, 2)
            self.assertEqual(raised(NotStraight, amount_in, Program(2, [bad]), (0, 0), (0, 0)).place, 0)
        self.assertEqual(amount_in(Program(2, [good[:1] + ((0, 0), 3)]), (0, 0), (9, 9)), 0)

    def test_errors_in_order(self):
        crooked = Program(2, [([(2, (1, 1))], (0, 0), 1)])
        for value in not_programs():
            self.assertIs(raised(InvalidProgram, amount_in, value, None, None).value, value)
        for value in not_cells(2):
            self.assertIs(raised(InvalidCell, amount_in, crooked, value, 7).value, value)
            self.assertIs(raised(InvalidCell, amount_in, crooked, (0, 0), value).value, value)
        self.assertEqual(amount_in(high=(1,), low=(1,), program=Program(1, [([], (1,), 4)])), 4)

    def test_at_the_limits(self):
        begun = time.monotonic()
        for digits, many in [(100, 30), (300, 400)]:
            chance = random.Random(digits)
            steps = [[0, 0, 0] for k in range(6)]
            for k, step in enumerate(steps):
                step[k // 2] = number(chance, digits)
            nests = []
            for k in range(many):
                loops = [(number(chance, 100), tuple(step)) for step in steps]
                nests.append((loops, vector(chance, 3, digits), number(chance, 100)))
            program = Program(3, nests)
            far = 10 ** (digits + 101)
            low, middle, high = (-far,) * 3, (0, far // 9, far // 11), (far,) * 3
            self.assertEqual(amount_in(program, low, high), program.total())
            part = amount_in(program, low, (far, far, middle[2]))
            self.assertEqual(part + amount_in(program, (-far, -far, middle[2] + 1), high), program.total())
            self.assertLess(0, amount_in(program, low, middle))
        self.assertLess(time.monotonic() - begun, SECONDS)


def reached(sums, wanted):
    """The least cell up to which sums add up to enough."""
    total = 0
    for cell in sorted(sums):
        total += sums[cell]
        if total >= wanted:
            return cell
    return None


class Reaching(unittest.TestCase):
    def test_against_round_by_round(self):
        chance = random.Random(4)
        for trial in range(600):
            nests = [a_nest(chance, 1, 4, straight=True) for k in range(chance.randint(0, 3))]
            nests = [(loops, place, abs(amount)) for loops, place, amount in nests]
            program = Program(1, nests)
            sums = round_by_round(nests)
            total = sum(sums.values())
            for wanted in {1, total, chance.randint(0, total) + 1}:
                if 1 <= wanted <= total:
                    self.assertEqual(cell_reaching(program, wanted), reached(sums, wanted), (nests, wanted))
            hands = chance.randint(1, 9)
            if total > 0:
                cells = [reached(sums, -(-k * total // hands)) for k in range(1, hands)]
                self.assertEqual(cuts(program, hands), cells)

    def check_reached(self, program, wanted, cell):
        """Check that the cell is the least one up to which enough is added."""
        low = (-10 ** 60,)
        self.assertGreaterEqual(amount_in(program, low, cell), wanted)
        self.assertLess(amount_in(program, low, (cell[0] - 1,)), wanted)

    def test_great_ones(self):
        row = Program(1, [([(BIG, (3,))], (-5,), 2)])
        for wanted in (1, 2, 3, BIG, 2 * BIG - 1, 2 * BIG):
            self.assertEqual(cell_reaching(row, wanted), (3 * ((wanted - 1) // 2) - 5,))
        back = Program(1, [([(BIG, (-3,))], (3 * BIG - 8,), 2)])
        self.assertEqual(cell_reaching(back, BIG), cell_reaching(row, BIG))
        self.assertEqual(cuts(row, 4), [(3 * (BIG // 4 * k - 1) - 5,) for k in (1, 2, 3)])
        lump = Program(1, [([(10 ** 20, (0,)), (1, (7,))], (-10 ** 20,), 10 ** 20), ([(0, (1,))], (-BIG,), 5)])
        self.assertEqual(cuts(lump, 60), [(-10 ** 20,)] * 59)
        self.assertEqual(cell_reaching(program=lump, wanted=BIG), (-10 ** 20,))
        far = Program(1, [([], (10 ** 99,), 1), ([], (-10 ** 99,), 0), ([], (-10 ** 98,), 1)])
        self.assertEqual([cell_reaching(far, wanted) for wanted in (1, 2)], [(-10 ** 98,), (10 ** 99,)])

    def test_shares(self):
        hill = Program(1, [([(100, (1,)), (100, (1,))], (0,), 1)])
        self.assertEqual(cuts(hill, 1), [])
        self.assertEqual(cuts(program=Program(1, [([(3, (2,))], (0,), 1)]), hands=5), [(0,), (2,), (2,), (4,)])
        self.assertEqual(cuts(Program(1, [([], (7,), 1)]), 3), [(7,), (7,)])
        parts = [(-1,)] + cuts(hill, 7) + [(198,)]
        for low, high in zip(parts, parts[1:]):
            self.assertLessEqual(abs(amount_in(hill, (low[0] + 1,), high) - 10000 / 7), 100)

    def test_errors_in_order(self):
        crooked, below, good = ([(2, (1,))] * 3, (0,), 1), ([(0, (1,))], (0,), -1), ([(5, (1,))], (0,), 2)
        for call in (cell_reaching, cuts):
            for value in not_programs() + [Program(2, []), Program(3, [([(2, (1, 1, 1))], (0, 0, 0), -1)]), Family(1, [])]:
                self.assertIs(raised(InvalidProgram, call, value, None).value, value)
            self.assertEqual(raised(NotStraight, call, Program(1, [below, good, crooked, crooked]), None).place, 2)
            self.assertEqual(raised(Negative, call, Program(1, [good, below, below]), None).place, 1)
            for value in not_numbers() + [0, -1, -BIG]:
                self.assertIs(raised(InvalidNumber, call, Program(1, [good]), value).value, value)
                self.assertIs(raised(InvalidNumber, call, Program(1, []), value).value, value)
        for value in (11, BIG):
            self.assertEqual(raised(InvalidNumber, cell_reaching, Program(1, [good]), value).value, value)
        self.assertEqual(cell_reaching(Program(1, [good]), 10), (4,))
        for nests in ([], [([(0, (1,))], (0,), 5)], [([(5, (1,))], (0,), 0)]):
            for value in (1, 2, 60):
                self.assertEqual(raised(InvalidNumber, cell_reaching, Program(1, nests), value).value, value)
                self.assertEqual(raised(InvalidNumber, cuts, Program(1, nests), value).value, value)

    def test_at_the_limits(self):
        begun = time.monotonic()
        for digits in (20, 3):
            chance = random.Random(digits)
            nests = []
            for k in range(10):
                loops = [(number(chance, digits), vector(chance, 1, 20)), (number(chance, 20), vector(chance, 1, digits))]
                nests.append((loops, vector(chance, 1, 20), number(chance, 20)))
            program = Program(1, nests)
            cells = cuts(program, 60)
            self.assertEqual((len(cells), sorted(cells)), (59, cells))
            for k in (1, 30, 59):
                self.check_reached(program, -(-k * program.total() // 60), cells[k - 1])
            self.check_reached(program, 12345, cell_reaching(program, 12345))
        self.assertLess(time.monotonic() - begun, SECONDS)


class Common(unittest.TestCase):
    def test_against_round_by_round(self):
        chance = random.Random(5)
        for trial in range(800):
            axes = chance.randint(1, 3)
            most = chance.randint(0, 3)
            one = [a_nest(chance, axes, most) for k in range(chance.randint(0, 3))]
            other = [a_nest(chance, axes, 3 - most) for k in range(chance.randint(0, 3))]
            left, right = round_by_round(one), round_by_round(other)
            wanted = sum(amount * right.get(cell, 0) for cell, amount in left.items())
            self.assertEqual(common(Program(axes, one), Program(axes, other)), wanted)
            self.assertEqual(common(Program(axes, other), Program(axes, one)), wanted)

    def test_known_sums(self):
        row = Program(1, [([(BIG, (1,))], (0,), 1)])
        self.assertEqual(common(row, row), BIG)
        self.assertEqual(common(row, row.shifted((10 ** 39,))), BIG - 10 ** 39)
        self.assertEqual(common(one=row * 3, other=-row), -3 * BIG)
        self.assertEqual(common(row, Program(1, [([(BIG, (7,))], (-1,), 5)])), 5 * (BIG // 7))
        self.assertEqual(common(row, Program(1, [])), 0)
        hill = Program(1, [([(BIG, (1,)), (BIG, (1,))], (0,), 1)])
        self.assertEqual(common(hill, row), BIG * (BIG + 1) // 2)
        # A sum of 0 has no part in it, whatever is added there.
        dipole = Program(1, [([], (5,), 4), ([], (5,), -4), ([], (6,), 2)])
        self.assertEqual(common(hill, dipole), 14)
        square = filled((0, 0), [BIG, BIG])
        line = Program(2, [([(BIG, (2, 3))], (1, 1), 1)])
        self.assertEqual(common(square, line), (BIG - 2) // 3 + 1)
        for cell in [(0, 0), (BIG - 1, 7), (BIG, 7)]:
            self.assertEqual(common(square, Program(2, [([], cell, 3)])), 3 * amount_at(square, cell))

    def test_idle_loops(self):
        idle = [(BIG, (0, 0)), (1, (1, 1)), (1, (0, 0))]
        one = Program(2, [([(4, (1, 0)), (4, (0, 1))] + idle, (0, 0), 1), ([(9, (1, 1))] * 6 + [(0, (1, 1))], (0, 0), 1)])
        other = Program(2, [([(4, (1, 1))] + idle, (0, 0), 1)])
        self.assertEqual(common(one, other), 4 * BIG * BIG)

    def test_errors_in_order(self):
        for value in not_programs():
            self.assertIs(raised(InvalidProgram, common, value, None).value, value)
            self.assertIs(raised(InvalidProgram, common, Program(2, []), value).value, value)
        for one in (1, 2, 3):
            for other in (1, 2, 3):
                error = raised(UnlikeAxes, common, Program(one, []), Program(other, []))
                self.assertEqual(None if error is None else error.axes, None if one == other else (one, other))

    def test_at_the_limits(self):
        begun = time.monotonic()
        for axes in (1, 2, 3):
            chance = random.Random(axes)
            root = vector(chance, axes, 90)
            steps = [tuple(times * far for far in root) for times in (3, -7, 11)]
            one, other = [], []
            for k in range(30):
                times = number(chance, 95)
                place = tuple(times * far for far in root)
                one.append(([(number(chance, 100), step) for step in steps[:2]], place, number(chance, 100)))
                other.append(([(number(chance, 100), steps[2])], root, number(chance, 100)))
            whole = common(Program(axes, one), Program(axes, other))
            pieces = [new for k, nest in enumerate(one[:15]) for new in split(nest, k & 1, 10 ** 98)]
            parts = common(Program(axes, pieces), Program(axes, other)) + common(Program(axes, one[15:]), Program(axes, other))
            self.assertEqual(parts, whole)
            self.assertNotEqual(whole, 0)
        self.assertLess(time.monotonic() - begun, SECONDS)


class NothingChanges(unittest.TestCase):
    def test_nothing_is_changed_or_shared(self):
        nests = [([(4, (1,)), (3, (0,)), (2, (-2,))], (5,), 2), ([], (0,), 1)]
        program = Program(1, nests)
        amount_at(program, (5,))
        amount_in(program, (0,), (9,))
        cell_reaching(program, 3)
        common(program, program)
        first, second = cuts(program, 4), cuts(program, 4)
        self.assertIsNot(first, second)
        first.append(None)
        self.assertEqual(cuts(program, 4), second)
        self.assertEqual(program.nests(), nests)


if __name__ == "__main__":
    unittest.main()
