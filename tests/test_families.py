"""[70] to [74]: families."""

import copy
import random
import time
import unittest

from addnests.compare import first_apart
from addnests.errors import InvalidFamily, InvalidList, InvalidNest, InvalidNumber, NegativeCount, UnlikeAxes
from addnests.families import Family, alike_from, parts_from
from addnests.programs import Program
from tests.tools import BIG, lists_within, misfits, not_numbers, raised, round_by_round

SECONDS = 20
N, ONE, NONE = (1, 0), (0, 1), (0, 0)
NESTS = [([(N, (ONE, (2, -1))), ((3, -4), (NONE, (0, -1)))], ((0, 5), (-1, 6)), 7), ([], (NONE, NONE), -1)]
OTHERS = [([((0, 2), ((1, 1), (0, 3)))], ((1, 1), (2, 2)), 0)]


def row(count, step, place=NONE, amount=1):
    """A nest of one loop on one axis."""
    return ([(count, (step,))], (place,), amount)


def moved(place, times, step):
    """A cell of lines, some steps of lines further."""
    return tuple((a + times * c, b + times * d) for (a, b), (c, d) in zip(place, step))


def some_step(chance, axes):
    """A step of lines, not zero on every axis."""
    step = tuple((chance.choice([0, 0, 1, -1, 2]), chance.randint(-3, 2)) for axis in range(axes))
    return step if any(line != NONE for line in step) else (ONE,) * axes


def some_nest(chance, axes):
    """A nest with lines."""
    counts = [N, ONE, (0, 2), (1, 1), (1, -1), (2, 0), NONE, (0, 3), (1, 2), (2, -3)]
    loops = [(chance.choice(counts), some_step(chance, axes)) for k in range(chance.randint(0, 2))]
    place = tuple((chance.choice([0, 1, -1]), chance.randint(-2, 2)) for axis in range(axes))
    return (loops, place, chance.choice([1, 1, 2, -1, 0]))


def written_otherwise(chance, nests):
    """Nests that add the same at every size at which none of their counts is below 0."""
    result = []
    for loops, place, amount in nests:
        if len(loops) == 0:
            result.append((loops, place, amount))
            continue
        at = chance.randrange(len(loops))
        count, step = loops[at]
        slope, base = count
        kind = chance.randrange(4)
        if kind == 0:
            first = chance.randint(0, 2)
            result.append((loops[:at] + [((0, first), step)] + loops[at + 1:], place, amount))
            rest = loops[:at] + [((slope, base - first), step)] + loops[at + 1:]
            result.append((rest, moved(place, first, step), amount))
        elif kind == 1 and slope == 0 and 0 <= base <= 3:
            result += [(loops[:at] + loops[at + 1:], moved(place, k, step), amount) for k in range(base)]
        elif kind == 2 and all(line[0] == 0 for line in step):
            end = tuple((a + slope * far[1], b + (base - 1) * far[1]) for (a, b), far in zip(place, step))
            result.append((loops[:at] + [(count, moved((NONE,) * len(step), -1, step))] + loops[at + 1:], end, amount))
        elif slope % 2 == 0 and base % 2 == 0:
            wide = moved(step, 1, step)
            result.append((loops[:at] + [((slope // 2, base // 2), wide), ((0, 2), step)] + loops[at + 1:], place, amount))
        else:
            result.append((loops[::-1], place, amount))
    return result


def are_alike(one, other, number):
    """Whether two families are alike at a number, found by going through all rounds."""
    return round_by_round((one.at(number) - other.at(number)).nests()) == {}


class Making(unittest.TestCase):
    def test_axes_and_nests(self):
        for axes in (1, 2, 3):
            nests = [([((-5, 3), ((0, 2),) * axes)], ((7, -1),) * axes, -5), ([], (NONE,) * axes, 0)]
            family = Family(axes=axes, nests=nests)
            self.assertEqual((family.axes, family.nests()), (axes, nests))
            self.assertEqual((Family(axes, []).axes, Family(axes, []).nests()), (axes, []))

    def test_errors_in_order(self):
        for axes in [0, 4, -1, BIG] + not_numbers():
            self.assertIs(raised(InvalidNumber, Family, axes, None).value, axes)
        for nests in misfits() + [5, (), tuple(NESTS), Family(2, NESTS), Program(2, [])]:
            self.assertIs(raised(InvalidList, Family, 2, nests).value, nests)
        wrongs = misfits() + [5, (), [], list(NESTS[0]), ([], (NONE,), 1), ([], (NONE,) * 3, 1), ([], (0, 0), 1)]
        wrongs += [([], [NONE, NONE], 1), ((), (NONE, NONE), 1), ([], (NONE, NONE), True), ([], (NONE, NONE), N)]
        wrongs += [([], (NONE, place), 1) for place in misfits() + [5, (), (1,), (1, 2, 3), [1, 2], (True, 0), (0, None)]]
        steps = [(NONE, NONE), (ONE,), (ONE, ONE, ONE), [ONE, ONE], (ONE, 1), (1, 1), (ONE, (False, 1)), ONE, 1, None]
        wrongs += [([(N, step)], (NONE, NONE), 1) for step in steps]
        counts = misfits() + [5, (), (1,), (1, 2, 3), [1, 2], (True, 0), (0, None), Family(2, NESTS)]
        wrongs += [([(count, (ONE, ONE))], (NONE, NONE), 1) for count in counts]
        wrongs += [([loop], (NONE, NONE), 1) for loop in misfits() + [5, N, [N, (ONE, ONE)], (N, (ONE, ONE), 1), ()]]
        for wrong in wrongs:
            self.assertIs(raised(InvalidNest, Family, 2, NESTS + [wrong, None]).value, wrong)
        self.assertEqual(len(Family(2, NESTS + [([(NONE, (NONE, ONE))], (NONE, NONE), 1)]).nests()), 3)

    def test_nothing_is_shared(self):
        nests = copy.deepcopy(NESTS)
        family = Family(2, nests)
        self.assertEqual(nests, NESTS)
        nests[0][0].append(None)
        nests.append(None)
        first, second = family.nests(), family.nests()
        self.assertEqual(first, NESTS)
        found = lists_within(first) + lists_within(second) + lists_within(nests)
        self.assertEqual(len({id(one) for one in found}), len(found))
        for one in lists_within(first):
            one.append(None)
        self.assertEqual(family.nests(), NESTS)
        loops = [(N, (ONE,))]
        twice = Family(1, [(loops, (NONE,), 1), (loops, (NONE,), 1)]).nests()
        self.assertIsNot(twice[0][0], twice[1][0])

    def test_a_family_is_no_program(self):
        family = Family(1, [])
        self.assertFalse(isinstance(family, Program))
        self.assertIs(Program(1, []) == family, False)
        self.assertIs(family == Program(1, []), False)


class Operators(unittest.TestCase):
    def test_sum_difference_and_opposite(self):
        one, other = Family(2, NESTS), Family(2, OTHERS)
        opposite = [(loops, place, -amount) for loops, place, amount in OTHERS]
        turned = [(loops, place, -amount) for loops, place, amount in NESTS]
        for result, nests in [(one + other, NESTS + OTHERS), (-one, turned), (one - other, NESTS + opposite),
                              (other - one, OTHERS + turned), (one + Family(2, []), NESTS), (-Family(2, []), [])]:
            self.assertIsInstance(result, Family)
            self.assertEqual((result.axes, result.nests()), (2, nests))
            for nest in result.nests():
                nest[0].append(None)
        self.assertEqual((one.nests(), other.nests()), (NESTS, OTHERS))

    def test_unlike_axes(self):
        for one in (1, 2, 3):
            for other in (1, 2, 3):
                for call in (lambda a, b: a + b, lambda a, b: a - b):
                    error = raised(UnlikeAxes, call, Family(one, []), Family(other, []))
                    self.assertEqual(None if error is None else error.axes, None if one == other else (one, other))


class At(unittest.TestCase):
    def test_at(self):
        program = Family(2, NESTS).at(number=3)
        self.assertIsInstance(program, Program)
        self.assertEqual(program.axes, 2)
        self.assertEqual(program.nests(), [([(3, (1, 5)), (5, (0, -1))], (5, 3), 7), ([], (0, 0), -1)])
        self.assertEqual(Family(3, []).at(0).nests(), [])
        huge = Family(1, [row((2, 1), (-1, 3), (5, 0), 4)]).at(BIG)
        self.assertEqual(huge.nests(), [([(2 * BIG + 1, (3 - BIG,))], (5 * BIG,), 4)])
        self.assertEqual(Family(1, [row(N, (1, -3))]).at(3).nests(), [([(3, (0,))], (0,), 1)])

    def test_numbers_and_counts(self):
        for value in not_numbers() + [-1, -BIG]:
            self.assertIs(raised(InvalidNumber, Family(1, [row((0, -1), ONE)]).at, value).value, value)
        family = Family(1, [row((1, -3), ONE), row((-1, 6), ONE)])
        for number in (0, 1, 2, 7, BIG):
            self.assertEqual(raised(NegativeCount, family.at, number).number, number)
        self.assertEqual([len(family.at(number)) for number in (3, 4, 5, 6)], [2] * 4)
        # Also where another count is 0, or the amount.
        nothing = ([(NONE, (ONE,)), ((0, -1), (ONE,))], (NONE,), 0)
        self.assertEqual(raised(NegativeCount, Family(1, [nothing]).at, 5).number, 5)

    def test_least(self):
        for wanted, counts in [(0, []), (0, [N, ONE, NONE]), (3, [(1, -3)]), (2, [(2, -3)]), (2, [(2, -4), (5, -6)]),
                               (0, [(3, 9)]), (None, [(0, -1)]), (None, [(-1, 10 ** 9)]), (None, [N, (-2, 0), N]),
                               (10 ** 9, [(1, -10 ** 9)])]:
            self.assertEqual(Family(1, [row(count, ONE) for count in counts]).least(), wanted, counts)
            self.assertEqual(Family(1, [([(count, (ONE,)) for count in counts], (NONE,), 0)]).least(), wanted, counts)


class AlikeFrom(unittest.TestCase):
    def test_against_round_by_round(self):
        chance = random.Random(1)
        kinds = {}
        for trial in range(2500):
            axes = chance.choice([1, 1, 2, 3])
            one = [some_nest(chance, axes) for k in range(chance.randint(0, 3))]
            other = [some_nest(chance, axes) for k in range(chance.randint(0, 2))]
            if trial & 1:
                other = written_otherwise(chance, written_otherwise(chance, one))
            if trial & 2 and other:
                loops, place, amount = other[0]
                loops = [(count, chance.choice([step, some_step(chance, axes)])) for count, step in loops]
                other[0] = (loops, moved(place, chance.randint(0, 1), some_step(chance, axes)), amount)
            one, other = Family(axes, one), Family(axes, other)
            low = chance.choice([0, 0, 1, 2, 4])
            lines = [count for nest in one.nests() + other.nests() for count, step in nest[0]]
            below = [n for n in range(low, 20) if any(slope * n + base < 0 for slope, base in lines)]
            if below:
                self.assertEqual(raised(NegativeCount, alike_from, one, other, low).number, below[0])
                continue
            found = alike_from(one, other, low)
            alike = [n for n in range(low, low + 9) if are_alike(one, other, n)]
            if found == "all":
                self.assertEqual(alike, list(range(low, low + 9)))
            else:
                self.assertEqual([n for n in found if n < low + 9], alike, (one.nests(), other.nests(), low))
                for n in found:
                    self.assertTrue(one.at(n) == other.at(n))
            kinds[found if found == "all" else len(found)] = True
        self.assertTrue({"all", 0, 1, 2}.issubset(set(kinds)))

    def test_few_numbers(self):
        # n * n additions in a row, and 5 * n - 6 of them: alike at 2 and 3 only.
        square = Family(1, [([(N, (N,)), (N, (ONE,))], (NONE,), 1)])
        line = Family(1, [row((5, -6), ONE)])
        self.assertEqual(alike_from(square, line, 2), [2, 3])
        self.assertEqual(alike_from(square, line, 3), [3])
        self.assertEqual(alike_from(one=line, other=square, low=4), [])
        self.assertEqual(alike_from(square, line, 10 ** 25), [])
        self.assertEqual(raised(NegativeCount, alike_from, square, line, 1).number, 1)
        far = 10 ** 9
        long = Family(1, [row((far, 0), ONE)])
        self.assertEqual([alike_from(square, long, low) for low in (0, 1, far, far + 1)], [[0, far], [far], [far], []])
        distant = Family(1, [([], ((7, -10 ** 10),), 1), ([], ((6, 0),), -1)])
        self.assertEqual(alike_from(distant, Family(1, []), 0), [10 ** 10])

    def test_numbers_at_which_a_step_is_zero(self):
        resting = Family(1, [row(N, (1, -3))])
        # At 3 the loop adds three times at one cell, at 0 nothing, and otherwise to cells apart.
        self.assertEqual(alike_from(resting, Family(1, [([], (NONE,), 3)]), 0), [3])
        self.assertEqual(alike_from(resting, Family(1, [([], (NONE,), 2)]), 0), [])
        self.assertEqual(alike_from(resting, Family(1, [([], (NONE,), 1)]), 0), [1])
        self.assertEqual(alike_from(resting, Family(1, []), 0), [0])
        self.assertEqual(alike_from(resting, resting, 0), "all")
        self.assertEqual(alike_from(resting, resting, 3), "all")
        halves = Family(1, [([((0, 2), ((1, -3),)), (N, ((2, -6),))], (NONE,), 1)])
        self.assertEqual(alike_from(halves, Family(1, [row((2, 0), (1, -3))]), 0), "all")
        # At 3 both steps are zero.
        self.assertEqual(alike_from(resting, Family(1, [row(N, (2, -6))]), 0), [0, 1, 3])
        self.assertEqual(alike_from(resting, Family(1, [row(N, (2, -6), (0, 1))]), 0), [0])
        corner = Family(2, [([((0, 2), ((1, -3), (1, -4)))], (NONE, NONE), 1)])
        straight = Family(2, [([((0, 2), ((0, 0), (1, -4)))], (NONE, NONE), 1)])
        self.assertEqual(alike_from(corner, straight, 0), [3])

    def test_loops_of_one_round_and_none(self):
        one = Family(1, [([((0, 1), (N,)), (N, (ONE,)), ((0, 1), ((5, 5),))], (NONE,), 1)])
        self.assertEqual(alike_from(one, Family(1, [row(N, ONE)]), 0), "all")
        none = Family(1, [([(NONE, (N,)), (N, (ONE,))], (NONE,), 1), row(N, ONE, NONE, 0)])
        self.assertEqual(alike_from(none, Family(1, []), 0), "all")
        self.assertEqual(alike_from(Family(3, []), Family(3, []), BIG), "all")

    def test_families_without_a_letter(self):
        six, two, three = (0, 6), (0, 2), (0, 3)
        one = Family(1, [([(three, (two,)), (two, (ONE,))], (NONE,), 1)])
        other = Family(1, [([(two, (three,)), (three, (ONE,))], (NONE,), 1)])
        self.assertEqual(alike_from(one, other, 5), "all")
        self.assertEqual(alike_from(one, Family(1, [row(six, ONE)]), 0), "all")
        self.assertEqual(alike_from(one, Family(1, [row(six, two)]), 0), [])

    def test_back_to_front(self):
        ahead = Family(1, [row((3, 1), (0, 2), (1, 1))])
        back = Family(1, [row((3, 1), (0, -2), (7, 1))])
        self.assertEqual(alike_from(ahead, back, 0), "all")
        self.assertEqual(alike_from(ahead, Family(1, [row((3, 1), (0, -2), (8, 0))]), 0), [1])

    def test_errors_in_order(self):
        below = Family(1, [row((1, -4), ONE)])
        for value in misfits()[:-2] + [{"n": [below]}, 0, 1, [], (), Program(1, []), [below], below.nests()]:
            self.assertIs(raised(InvalidFamily, alike_from, value, None, None).value, value)
            self.assertIs(raised(InvalidFamily, alike_from, below, value, None).value, value)
            self.assertIs(raised(InvalidFamily, parts_from, value, None).value, value)
            self.assertIs(raised(InvalidFamily, parts_from, below, value).value, value)
        self.assertEqual(raised(UnlikeAxes, alike_from, below, Family(2, []), None).axes, (1, 2))
        self.assertEqual(raised(UnlikeAxes, parts_from, Family(3, []), Family(1, [row((0, -1), ONE)])).axes, (3, 1))
        for value in not_numbers() + [-1, -BIG]:
            self.assertIs(raised(InvalidNumber, alike_from, below, below, value).value, value)
        self.assertEqual(raised(NegativeCount, alike_from, below, below, 2).number, 2)
        self.assertEqual(alike_from(below, below, 4), "all")
        falling = Family(1, [row((-3, 100), ONE), row((-2, 100), ONE)])
        self.assertEqual(raised(NegativeCount, alike_from, below, falling, 4).number, 34)
        self.assertEqual(raised(NegativeCount, alike_from, falling, below, 1).number, 1)
        self.assertEqual(raised(NegativeCount, alike_from, falling, falling, 10 ** 25).number, 10 ** 25)
        nothing = Family(1, [([(NONE, (ONE,)), ((-1, 5), (ONE,))], (NONE,), 0)])
        self.assertEqual(raised(NegativeCount, alike_from, nothing, nothing, 0).number, 6)


class PartsFrom(unittest.TestCase):
    def check_parts(self, one, other, numbers=(0, 1, 2, 3, 10, 1000, 10 ** 20)):
        """Check what is returned against the programs at some sizes."""
        start, place, amount = parts_from(one, other)
        self.assertTrue(isinstance(start, int) and 0 <= start < 10 ** 25)
        for more in numbers:
            n = start + more
            cell = tuple(a * n * n + b * n + c for a, b, c in place)
            self.assertEqual(first_apart(one.at(n), other.at(n)), (cell, amount), (one.nests(), other.nests(), n))
        return (place, amount)

    def test_against_first_apart(self):
        chance = random.Random(2)
        alike = 0
        for trial in range(600):
            axes = chance.choice([1, 1, 2, 3])
            one = [some_nest(chance, axes) for k in range(chance.randint(0, 3))]
            other = [some_nest(chance, axes) for k in range(chance.randint(0, 2))]
            if trial & 1:
                other = written_otherwise(chance, one)
            if trial & 2:
                other.append(some_nest(chance, axes))
            one, other = Family(axes, one), Family(axes, other)
            if None in (one.least(), other.least()):
                self.assertIsNone(raised(NegativeCount, parts_from, one, other).number)
            elif parts_from(one, other) is None:
                self.assertEqual(alike_from(one, other, max(one.least(), other.least())), "all")
                alike += 1
            else:
                self.check_parts(one, other)
        self.assertGreater(alike, 100)

    def test_places_of_degree_2(self):
        square = Family(1, [([(N, (N,)), (N, (ONE,))], (NONE,), 1)])
        longer = square + Family(1, [([], ((0, -3),), -5), ([], ((0, -3),), 5), ([], ((3, 1),), 2)])
        self.assertEqual(self.check_parts(longer, square), (((0, 3, 1),), 2))
        self.assertEqual(self.check_parts(square, longer), (((0, 3, 1),), -2))
        wider = Family(1, [([((1, 1), (N,)), (N, (ONE,))], (NONE,), 1)])
        more = square + Family(1, [row((1, 1), N), row(N, N, NONE, -1)])
        self.assertEqual(self.check_parts(more, square), (((1, 0, 0),), 1))
        self.assertEqual(self.check_parts(wider, square), (((1, 0, 0),), 1))
        back = Family(2, [([(N, ((-1, 0), (0, 4)))], (NONE, (0, 7)), 3)])
        self.assertEqual(self.check_parts(back, Family(2, [])), (((-1, 1, 0), (0, 4, 3)), 3))

    def test_start_is_late_enough(self):
        # Far behind for small sizes, ahead for great ones.
        one = Family(1, [([], ((-1, 10 ** 9),), 2), ([], (NONE,), 3)])
        self.assertEqual(self.check_parts(one, Family(1, [])), (((0, -1, 10 ** 9),), 2))
        steps = Family(1, [row((0, 2), (1, -10 ** 9))])
        self.assertEqual(self.check_parts(steps, Family(1, [])), (((0, 0, 0),), 1))
        counts = Family(1, [row((1, -10 ** 9), ONE)])
        self.assertEqual(self.check_parts(counts, Family(1, [])), (((0, 0, 0),), 1))
        axes = Family(2, [([], ((0, 4), (-1, 10 ** 9)), 2), ([], ((0, 4), NONE), 3), ([], ((1, -99), NONE), 3)])
        self.assertEqual(self.check_parts(axes, Family(2, [])), (((0, 0, 4), (0, -1, 10 ** 9)), 2))

    def test_alike_or_without_a_letter(self):
        halves = Family(1, [([(N, ((0, 2),)), ((0, 2), (ONE,))], (NONE,), 1)])
        self.assertIsNone(parts_from(one=halves, other=Family(1, [row((2, 0), ONE)])))
        self.assertIsNone(parts_from(Family(2, []), Family(2, [])))
        self.assertEqual(parts_from(Family(1, [([], ((0, 4),), 5)]), Family(1, []))[1:], (((0, 0, 4),), 5))

    def test_negative_counts(self):
        good, falling = Family(1, [row(N, ONE)]), Family(1, [row((-1, 10 ** 9), ONE)])
        for one, other in [(good, falling), (falling, good), (falling, falling), (Family(1, [row((0, -1), ONE, NONE, 0)]), good)]:
            self.assertIsNone(raised(NegativeCount, parts_from, one, other).number)
        self.assertIsNotNone(raised(NegativeCount, parts_from, good, falling))
        self.assertIsNone(parts_from(Family(1, [row((1, -5), ONE)]), Family(1, [row((1, -5), ONE)])))


class Limits(unittest.TestCase):
    def test_at_the_limits(self):
        begun = time.monotonic()
        for axes in (1, 2, 3):
            chance = random.Random(axes)

            def line():
                return (chance.choice([-1, 1]) * chance.randrange(10 ** 9, 10 ** 10), chance.randrange(10 ** 9, 10 ** 10))

            def family(steps, many):
                nests = []
                for k in range(many):
                    loops = [((abs(line()[0]), line()[1]), step) for step in chance.sample(steps, chance.randint(0, 6))]
                    nests.append((loops, tuple(line() for axis in range(axes)), line()[0]))
                return Family(axes, nests)

            steps = [tuple(line() for axis in range(axes)) for k in range(6)]
            one, other = family(steps, 6), family(steps, 6)
            self.assertEqual(alike_from(one, other, 10 ** 25), [])
            self.assertEqual(alike_from(one, other, 0), [])
            self.assertEqual(alike_from(one + other, other + one, 0), "all")
            start, place, amount = parts_from(one, other)
            n = start + 10 ** 10
            cell = tuple(a * n * n + b * n + c for a, b, c in place)
            self.assertLess(start, 10 ** 25)
            self.assertEqual(first_apart(one.at(n), other.at(n)), (cell, amount))
            many, more = family(steps, 30), family(steps, 30)
            self.assertEqual(alike_from(many, more, 0), [])
            self.assertEqual(alike_from(many, many, 0), "all")
            self.assertLess(parts_from(many, more)[0], 10 ** 25)
            self.assertIsNone(parts_from(many, Family(axes, many.nests()[::-1])))
        self.assertLess(time.monotonic() - begun, SECONDS)

    def test_many_numbers(self):
        begun = time.monotonic()
        one = Family(1, [([], ((k, 0),), k) for k in range(1, 31)])
        other = Family(1, [([], ((0, 100 * k),), k) for k in range(1, 31)])
        self.assertEqual(alike_from(one, other, 0), [100])
        self.assertEqual(alike_from(one, -one, 0), [])
        steps = [((1, -k),) for k in range(6)]
        resting = Family(1, [([(N, step) for step in steps], (NONE,), 1)])
        self.assertEqual(alike_from(resting, Family(1, []), 0), [0])
        self.assertEqual(alike_from(resting, resting + Family(1, [([], ((1, -5),), 1), ([], ((2, -10),), -1)]), 0), [5])
        self.assertLess(time.monotonic() - begun, SECONDS)


class NothingChanges(unittest.TestCase):
    def test_nothing_is_changed_or_shared(self):
        one, other = Family(1, [row(N, (1, -3))]), Family(1, [row(N, (2, -6))])
        first, second = alike_from(one, other, 0), alike_from(one, other, 0)
        self.assertIsNot(first, second)
        first.append(None)
        self.assertEqual(alike_from(one, other, 0), second)
        parts_from(one, other)
        self.assertEqual((one.nests(), other.nests()), ([row(N, (1, -3))], [row(N, (2, -6))]))
        program = one.at(5)
        program.nests()[0][0].append(None)
        self.assertEqual(one.at(5).nests(), [([(5, (2,))], (0,), 1)])


if __name__ == "__main__":
    unittest.main()
