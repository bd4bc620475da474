"""[2], [20], [21], [22], [24]: what programs are made of, nest by nest."""

import copy
import unittest

from addnests.errors import InvalidCell, InvalidList, InvalidNest, InvalidNumber, UnlikeAxes
from addnests.programs import Program
from tests.tools import BIG, lists_within, misfits, not_numbers, raised, round_by_round

ONE = [([(3, (1, 2)), (2, (0, -1))], (5, 6), 7), ([], (0, 0), -1)]
OTHER = [([(BIG, (1, 0))], (1, 1), 2), ([(0, (0, 0))], (2, 2), 0)]


class Making(unittest.TestCase):
    def test_axes_nests_and_length(self):
        for axes in (1, 2, 3):
            cell = (4,) * axes
            nests = [([(2, cell)], cell, 5), ([], cell, 0), ([(2, cell)], cell, 5)]
            program = Program(axes=axes, nests=nests)
            self.assertEqual((program.axes, program.nests(), len(program)), (axes, nests, 3))
            empty = Program(axes, [])
            self.assertEqual((empty.axes, empty.nests(), len(empty)), (axes, [], 0))

    def test_errors_in_order(self):
        for axes in [0, 4, -1, BIG] + not_numbers():
            self.assertIs(raised(InvalidNumber, Program, axes, None).value, axes)
        for nests in misfits() + [5, (), tuple(ONE), Program(2, ONE)]:
            self.assertIs(raised(InvalidList, Program, 2, nests).value, nests)
        for wrong in misfits() + [5, (), [], list(ONE[0]), ([], (0,), 1), ([], (0, 0, 0), 1), ([(-1, (0, 0))], (0, 0), 1)]:
            self.assertIs(raised(InvalidNest, Program, 2, ONE + [wrong, None]).value, wrong)

    def test_nothing_is_shared(self):
        nests = copy.deepcopy(ONE)
        program = Program(2, nests)
        self.assertEqual(nests, ONE)
        nests[0][0].append(None)
        nests.append(None)
        self.assertEqual(program.nests(), ONE)
        first, second = program.nests(), program.nests()
        found = lists_within(first) + lists_within(second) + lists_within(nests)
        self.assertEqual(len({id(one) for one in found}), len(found))
        for one in lists_within(first):
            one.append(None)
        self.assertEqual(program.nests(), ONE)

    def test_one_list_given_twice(self):
        loops = [(2, (1, 1))]
        nest = (loops, (0, 0), 1)
        returned = Program(2, [nest, nest]).nests()
        self.assertEqual(returned, [nest, nest])
        self.assertIsNot(returned[0][0], returned[1][0])


class Operators(unittest.TestCase):
    def test_sum_and_difference(self):
        one, other = Program(2, ONE), Program(2, OTHER)
        opposite = [([(BIG, (1, 0))], (1, 1), -2), ([(0, (0, 0))], (2, 2), 0)]
        for result, nests in [(one + other, ONE + OTHER), (-other, opposite), (one - other, ONE + opposite)]:
            self.assertIsInstance(result, Program)
            self.assertEqual((result.axes, result.nests()), (2, nests))
        self.assertEqual((one + Program(2, [])).nests(), ONE)
        self.assertEqual((one.nests(), other.nests()), (ONE, OTHER))

    def test_by_a_number(self):
        one = Program(2, ONE)
        for number in (0, 1, -1, 5, -10 ** 99):
            nests = [(loops, place, amount * number) for loops, place, amount in ONE]
            self.assertEqual((one * number).nests(), nests)
            self.assertEqual((number * one).nests(), nests)
        self.assertEqual((3 * Program(1, [])).nests(), [])

    def test_by_a_program(self):
        one, other = Program(2, ONE), Program(2, OTHER)
        self.assertEqual((one * other).nests(), [
            ([(3, (1, 2)), (2, (0, -1)), (BIG, (1, 0))], (6, 7), 14),
            ([(3, (1, 2)), (2, (0, -1)), (0, (0, 0))], (7, 8), 0),
            ([(BIG, (1, 0))], (1, 1), -2),
            ([(0, (0, 0))], (2, 2), 0),
        ])
        self.assertEqual((one * Program(2, [])).nests(), [])
        self.assertEqual((Program(2, []) * one).nests(), [])
        self.assertEqual((one * other).axes, 2)

    def test_convolution_round_by_round(self):
        one = Program(1, [([(3, (2,)), (2, (-1,))], (4,), 2), ([(2, (5,))], (0,), -1)])
        other = Program(1, [([(4, (1,))], (-2,), 1), ([], (3,), -3)])
        wanted = {}
        for (left,), many in round_by_round(one.nests()).items():
            for (right,), amount in round_by_round(other.nests()).items():
                wanted[(left + right,)] = wanted.get((left + right,), 0) + many * amount
        self.assertEqual(round_by_round((one * other).nests()), {cell: sum for cell, sum in wanted.items() if sum})

    def test_unlike_axes(self):
        programs = {axes: Program(axes, []) for axes in (1, 2, 3)}
        calls = [lambda a, b: a + b, lambda a, b: a - b, lambda a, b: a * b]
        for one in programs:
            for other in programs:
                for call in calls:
                    error = raised(UnlikeAxes, call, programs[one], programs[other])
                    self.assertEqual(None if error is None else error.axes, None if one == other else (one, other))

    def test_results_are_independent(self):
        one = Program(2, ONE)
        for result in (one + one, -one, one - one, one * 2, one * one, one.shifted((1, 1)), one.looped(2, (1, 1)),
                       one.mapped([[1, 0]])):
            for nest in result.nests():
                nest[0].append(None)
            found = lists_within(result.nests())
            self.assertEqual(len({id(item) for item in found}), len(found))
            self.assertNotIn(None, [loop for nest in result.nests() for loop in nest[0]])
        self.assertEqual(one.nests(), ONE)


class Methods(unittest.TestCase):
    def test_shifted(self):
        moved = Program(2, ONE).shifted(cell=(-5, BIG))
        self.assertEqual(moved.nests(), [([(3, (1, 2)), (2, (0, -1))], (0, 6 + BIG), 7), ([], (-5, BIG), -1)])
        self.assertEqual(Program(3, []).shifted((1, 2, 3)).nests(), [])

    def test_looped(self):
        program = Program(2, ONE)
        for count in (0, 1, 10 ** 99):
            nests = [([(count, (0, 3))] + loops, place, amount) for loops, place, amount in ONE]
            self.assertEqual(program.looped(count=count, step=(0, 3)).nests(), nests)
        self.assertEqual(Program(1, []).looped(5, (0,)).nests(), [])

    def test_mapped(self):
        program = Program(2, ONE)
        line = program.mapped(rows=[[100, 1]])
        self.assertEqual((line.axes, line.nests()), (1, [([(3, (102,)), (2, (-1,))], (506,), 7), ([], (0,), -1)]))
        cube = program.mapped([[0, 1], [0, 0], [-1, BIG]])
        self.assertEqual((cube.axes, cube.nests()), (3, [
            ([(3, (2, 0, 2 * BIG - 1)), (2, (-1, 0, -BIG))], (6, 0, 6 * BIG - 5), 7), ([], (0, 0, 0), -1)]))
        rows = [[1, 0], [0, 1]]
        same = program.mapped(rows)
        rows[0][0] = 9
        self.assertEqual(same.nests(), ONE)
        self.assertEqual(Program(1, [([(2, (3,))], (4,), 5)]).mapped([[2], [-1]]).nests(), [([(2, (6, -3))], (8, -4), 5)])

    def test_total(self):
        self.assertEqual(Program(2, ONE).total(), 41)
        self.assertEqual(Program(2, OTHER).total(), 2 * BIG)
        self.assertEqual(Program(2, []).total(), 0)
        deep = Program(1, [([(10 ** 99, (1,))] * 6, (0,), -10 ** 99), ([(0, (1,)), (5, (1,))], (0,), 3)])
        self.assertEqual(deep.total(), -10 ** 693)

    def test_wrong_cells(self):
        for axes in (1, 2, 3):
            program = Program(axes, [])
            for wrong in misfits() + [1, [], (), (1,) * (axes + 1), [1] * axes, (True,) * axes, (None,) * axes, program]:
                self.assertIs(raised(InvalidCell, program.shifted, wrong).value, wrong)
                self.assertIs(raised(InvalidCell, program.looped, 0, wrong).value, wrong)

    def test_wrong_counts_come_first(self):
        for wrong in [-1, -BIG] + not_numbers():
            self.assertIs(raised(InvalidNumber, Program(1, []).looped, wrong, None).value, wrong)

    def test_wrong_rows(self):
        program = Program(2, ONE)
        wrongs = [[], [[1, 2]] * 4, [[1]], [[1, 2, 3]], [[1, 2], [1]], [(1, 2)], ([1, 2],), [1, 2], [[1, True]], [[]]]
        wrongs += [[[1, 2], row] for row in misfits()] + [[[0, item]] for item in not_numbers()]
        for wrong in wrongs + misfits() + [5, program]:
            with self.subTest(wrong=wrong):
                self.assertIs(raised(InvalidList, program.mapped, wrong).value, wrong)


if __name__ == "__main__":
    unittest.main()
