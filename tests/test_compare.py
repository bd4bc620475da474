"""[30] to [34]: where programs part, begin and end."""

import itertools
import random
import time
import unittest

from addnests.compare import alike, box, comes_first, filled, first_apart, first_cell, first_not_once, last_cell
from addnests.errors import InvalidCell, InvalidList, InvalidNumber, InvalidOrder, InvalidProgram, UnlikeAxes
from addnests.nests import blocked, split, spread, swapped, turned, unrolled
from addnests.programs import Program
from tests.test_equal import number, rewritten, small_nest, vector
from tests.tools import BIG, lists_within, misfits, raised, round_by_round

SECONDS = 20
POINT = Program(1, [([], (0,), 1)])


def all_orders(axes):
    """All orders of the cells with so many axes."""
    found = [tuple(sign * axis for sign, axis in zip(signs, chosen))
             for chosen in itertools.permutations(range(1, axes + 1))
             for signs in itertools.product((1, -1), repeat=axes)]
    return found + [None]


def in_turn(cell, order):
    """The numbers of a cell by which it is compared in an order."""
    if order is None:
        return cell
    return tuple(cell[abs(axis) - 1] if axis > 0 else -cell[abs(axis) - 1] for axis in order)


def first_of(sums, order):
    """The first cell of some in an order, with its sum, or None."""
    if not sums:
        return None
    cell = min(sums, key=lambda one: in_turn(one, order))
    return (cell, sums[cell])


def difference(left, right, modulus=0):
    """The sums of the one less those of the other, where this is not 0."""
    sums = {cell: left.get(cell, 0) - right.get(cell, 0) for cell in {**left, **right}}
    if modulus:
        sums = {cell: amount % modulus for cell, amount in sums.items()}
    return {cell: amount for cell, amount in sums.items() if amount}


def bounds(sums, axes):
    """The box of the cells of some sums."""
    if not sums:
        return None
    return [(min(cell[axis] for cell in sums), max(cell[axis] for cell in sums)) for axis in range(axes)]


def not_orders(axes):
    """Values that are no orders of the cells with so many axes."""
    values = [value for value in misfits() if value is not None] + [0, 1, axes, [1, 2, 3][:axes], POINT, ((1,),)]
    values += [(), (0,) * axes, (1,) * (axes + 1), tuple(range(1, axes + 2)), tuple(range(axes)), tuple(range(1, axes)),
               (True, 2, 3)[:axes], (1, 2, "3")[3 - axes:], (1,) * (axes - 1) + (None,), ((1, 2, 3)[:axes],)]
    if axes > 1:
        values += [(1,) * axes, (1, -1, 2)[:axes], (2,) + (2, 1)[:axes - 1]]
    return values


class Orders(unittest.TestCase):
    def test_how_many(self):
        self.assertEqual([len(all_orders(axes)) for axes in (1, 2, 3)], [3, 9, 49])

    def test_comes_first(self):
        self.assertIs(comes_first((1, 2), (1, 3), (1, 2)), True)
        self.assertIs(comes_first((1, 3), (1, 2), (1, 2)), False)
        self.assertIs(comes_first((1, 2), (1, 2), (1, 2)), False)
        self.assertIs(comes_first((0, 9), (1, 2), (2, 1)), False)
        self.assertIs(comes_first((0, 9), (1, 2), (-2, 1)), True)
        self.assertIs(comes_first((0, 2), (1, 2), (-2, 1)), True)
        self.assertIs(comes_first((0, 2), (1, 2), (-2, -1)), False)
        self.assertIs(comes_first((-BIG,), (BIG,), None), True)
        self.assertIs(comes_first((-BIG,), (BIG,), (-1,)), False)
        self.assertIs(comes_first(one=(1, 5), other=(2, 0), order=None), True)

    def test_all_orders_of_small_cells(self):
        for axes in (1, 2, 3):
            cells = list(itertools.product((-1, 0, 1), repeat=axes))
            for order in all_orders(axes):
                for one, other in itertools.product(cells, repeat=2):
                    self.assertIs(comes_first(one, other, order), in_turn(one, order) < in_turn(other, order))

    def test_wrong_cells(self):
        for value in misfits() + [0, [1], (), ([1],), (1, True), (1, 2, 3, 4), ("1",), (None, 1), POINT]:
            error = raised(InvalidCell, comes_first, value, (0, "x"), 7)
            self.assertIs(error.value, value)
            error = raised(InvalidCell, comes_first, (1,), value, 7)
            self.assertIs(error.value, value)
        for one, other in [((1,), (1, 2)), ((1, 2), (1,)), ((1, 2, 3), (1, 2)), ((1, 2), (1, 2, 3))]:
            self.assertIs(raised(InvalidCell, comes_first, one, other, None).value, other)

    def test_wrong_orders(self):
        for axes in (1, 2, 3):
            cell = (0,) * axes
            program = Program(axes, [([], cell, 1)])
            for order in not_orders(axes):
                with self.subTest(axes=axes, order=order):
                    self.assertIs(raised(InvalidOrder, comes_first, cell, cell, order).value, order)
                    self.assertIs(raised(InvalidOrder, first_apart, program, program, order=order).value, order)
                    self.assertIs(raised(InvalidOrder, first_cell, program, order=order).value, order)
                    self.assertIs(raised(InvalidOrder, last_cell, program, order=order).value, order)
                    error = raised(InvalidOrder, first_not_once, program, cell, [1] * axes, order=order)
                    self.assertIs(error.value, order)
                    # The order is checked for programs that add nothing, too.
                    self.assertIs(raised(InvalidOrder, first_cell, Program(axes, []), order=order).value, order)


class Small(unittest.TestCase):
    def test_against_round_by_round(self):
        chance = random.Random(1)
        alike_ones = 0
        for trial in range(3000):
            axes = chance.randint(1, 3)
            one = [small_nest(chance, axes) for k in range(chance.randint(0, 3))]
            other = [small_nest(chance, axes) for k in range(chance.randint(0, 2))]
            modulus = chance.choice([0, 0, 0, 1, 2, 3, 6])
            if trial & 1:
                other = [new for nest in one for new in rewritten(chance, nest)]
                other = [new for nest in other for new in rewritten(chance, nest)]
            if trial & 2 and other:
                other = [(loops, place, amount * (modulus + 1)) for loops, place, amount in other]
            order = chance.choice(all_orders(axes))
            left, right = round_by_round(one), round_by_round(other)
            wanted = first_of(difference(left, right, modulus), order)
            with self.subTest(one=one, other=other, order=order, modulus=modulus):
                one, other = Program(axes, one), Program(axes, other)
                self.assertEqual(first_apart(one, other, order=order, modulus=modulus), wanted)
                self.assertIs(alike(one, other, modulus=modulus), wanted is None)
                self.assertEqual(first_cell(one, order=order), first_of(left, order))
                downwards = tuple(-axis for axis in order or range(1, axes + 1))
                self.assertEqual(last_cell(one, order=order), first_of(left, downwards))
                self.assertEqual(box(one), bounds(left, axes))
            alike_ones += wanted is None
        self.assertGreater(alike_ones, 800)
        self.assertLess(alike_ones, 2200)

    def test_boxes_against_round_by_round(self):
        chance = random.Random(2)
        for trial in range(1000):
            axes = chance.randint(1, 3)
            corner = tuple(chance.randint(-2, 2) for axis in range(axes))
            sizes = [chance.randint(0, 3) for axis in range(axes)]
            due = {cell: 1 for cell in itertools.product(*[range(low, low + size) for low, size in zip(corner, sizes)])}
            self.assertEqual(round_by_round(filled(corner, sizes).nests()), due)
            nests = filled(corner, sizes).nests()
            nests = [new for nest in nests for new in rewritten(chance, nest)]
            if trial & 1:
                nests.append(small_nest(chance, axes))
            order = chance.choice(all_orders(axes))
            wanted = first_of(difference(round_by_round(nests), due), order)
            self.assertEqual(first_not_once(Program(axes, nests), corner, sizes, order=order), wanted)

    def test_every_cell_can_part(self):
        # One cell too much or too little, wherever it is, in every order.
        for order in all_orders(2):
            square = Program(2, [([(3, (1, 0)), (3, (0, 1))], (-1, -1), 2)])
            for cell in itertools.product((-1, 0, 1), repeat=2):
                for amount in (-2, 3):
                    more = square + Program(2, [([], cell, amount)])
                    self.assertEqual(first_apart(more, square, order=order), (cell, amount))
                    self.assertEqual(first_apart(square, more, order=order), (cell, -amount))


class Apart(unittest.TestCase):
    def test_first_apart(self):
        one = Program(2, [([(4, (0, 1)), (3, (1, 0))], (0, 0), 1)])
        other = Program(2, [([(4, (0, 1)), (2, (1, 0))], (0, 0), 1)])
        self.assertEqual(first_apart(one, other), ((2, 0), 1))
        self.assertEqual(first_apart(other, one), ((2, 0), -1))
        self.assertEqual(first_apart(one, other, order=None), ((2, 0), 1))
        self.assertEqual(first_apart(one, other, order=(1, 2)), ((2, 0), 1))
        self.assertEqual(first_apart(one, other, order=(1, -2)), ((2, 3), 1))
        self.assertEqual(first_apart(one, other, order=(-2, -1)), ((2, 3), 1))
        self.assertEqual(first_apart(one=one, other=other, order=(2, 1), modulus=5), ((2, 0), 1))
        self.assertIsNone(first_apart(one, one))
        self.assertIsNone(first_apart(Program(2, []), Program(2, [])))
        self.assertIsNone(first_apart(Program(2, [([(0, (1, 1))], (0, 0), 1)]), Program(2, [([], (5, 5), 0)])))

    def test_loops_that_do_not_move_or_go_back(self):
        point = Program(1, [([], (7,), 1)])
        for loops, place, wanted in [
            ([(1, (5,))], 7, None),
            ([(1, (0,))], 7, None),
            ([(3, (0,))], 7, ((7,), 2)),
            ([(0, (5,))], 7, ((7,), -1)),
            ([(2, (-3,))], 7, ((4,), 1)),
            ([(2, (3,))], 7, ((10,), 1)),
            ([(2, (3,)), (2, (-3,))], 7, ((4,), 1)),
            ([(2, (3,)), (0, (-3,))], 7, ((7,), -1)),
        ]:
            self.assertEqual(first_apart(Program(1, [(loops, (place,), 1)]), point), wanted)
        both = Program(1, [([(2, (3,)), (2, (-3,))], (7,), 1)])
        self.assertEqual([first_cell(both), last_cell(both), box(both)], [((4,), 1), ((10,), 1), [(4, 10)]])
        self.assertEqual(first_apart(both, Program(1, [([(3, (3,))], (4,), 1)])), ((7,), 1))

    def test_modulus(self):
        one = Program(1, [([], (0,), 9), ([], (1,), 3), ([], (2,), -1)])
        zero = Program(1, [])
        self.assertEqual(first_apart(one, zero, modulus=0), ((0,), 9))
        self.assertIsNone(first_apart(one, zero, modulus=1))
        self.assertEqual(first_apart(one, zero, modulus=2), ((0,), 1))
        self.assertEqual(first_apart(one, zero, modulus=3), ((2,), 2))
        self.assertEqual(first_apart(zero, one, modulus=3), ((2,), 1))
        self.assertEqual(first_apart(one, zero, modulus=5), ((0,), 4))
        self.assertEqual(first_apart(zero, one, modulus=5), ((0,), 1))
        self.assertEqual(first_apart(one, zero, modulus=9), ((1,), 3))
        self.assertEqual(first_apart(one, zero, modulus=9, order=(-1,)), ((2,), 8))
        self.assertEqual(first_apart(zero, one, modulus=BIG), ((0,), BIG - 9))
        self.assertIsNone(first_apart(one, one * 4, modulus=3))
        self.assertEqual(first_apart(one, one * 4), ((0,), -27))
        self.assertIs(alike(one, one * 4, modulus=3), True)
        self.assertIs(alike(one, one * 4, modulus=9), False)
        self.assertIs(alike(one, zero, modulus=1), True)
        self.assertIs(alike(one, zero), False)
        self.assertIs(alike(one=one, other=one, modulus=0), True)

    def test_sums_that_meet_only_modulo_a_number(self):
        # 1 + z + .. + z ** 6 is (1 - z) ** 6 modulo 7, and (1 - z) ** 7 is 1 - z ** 7.
        row = Program(1, [([(7, (1,))], (0,), 1)])
        power = Program(1, [([], (0,), 1)])
        for k in range(6):
            power = power * Program(1, [([], (0,), 1), ([], (1,), -1)])
        self.assertIs(alike(row, power, modulus=7), True)
        self.assertEqual(first_apart(row, power), ((1,), 7))
        self.assertEqual(first_apart(row, power, modulus=49), ((1,), 7))
        self.assertEqual(first_apart(row, power, modulus=14), ((1,), 7))
        self.assertIsNone(first_apart(row, power, modulus=7, order=(-1,)))

    def test_errors_in_order(self):
        two = Program(2, [])
        for value in misfits() + [0, 5, [], [([], (0,), 1)], (1, [])]:
            self.assertIs(raised(InvalidProgram, first_apart, value, 3, order=9, modulus=-1).value, value)
            self.assertIs(raised(InvalidProgram, first_apart, POINT, value, order=9, modulus=-1).value, value)
            self.assertIs(raised(InvalidProgram, alike, value, 3, modulus=-1).value, value)
            self.assertIs(raised(InvalidProgram, alike, POINT, value, modulus=-1).value, value)
            self.assertIs(raised(InvalidProgram, first_cell, value, order=9).value, value)
            self.assertIs(raised(InvalidProgram, last_cell, value, order=9).value, value)
            self.assertIs(raised(InvalidProgram, box, value).value, value)
        self.assertEqual(raised(UnlikeAxes, first_apart, POINT, two, order=9, modulus=-1).axes, (1, 2))
        self.assertEqual(raised(UnlikeAxes, first_apart, Program(3, []), two, order=9, modulus=-1).axes, (3, 2))
        self.assertEqual(raised(UnlikeAxes, alike, two, POINT, modulus=-1).axes, (2, 1))
        self.assertEqual(raised(InvalidOrder, first_apart, two, two, order=9, modulus=-1).value, 9)
        for value in misfits() + [-1, -BIG, [], (), [2], (2,), POINT]:
            self.assertIs(raised(InvalidNumber, first_apart, POINT, POINT, order=(-1,), modulus=value).value, value)
            self.assertIs(raised(InvalidNumber, alike, POINT, POINT, modulus=value).value, value)

    def test_only_by_name(self):
        self.assertIsNotNone(raised(TypeError, first_apart, POINT, POINT, None))
        self.assertIsNotNone(raised(TypeError, alike, POINT, POINT, 0))
        self.assertIsNotNone(raised(TypeError, first_cell, POINT, None))
        self.assertIsNotNone(raised(TypeError, last_cell, POINT, None))
        self.assertIsNotNone(raised(TypeError, first_not_once, POINT, (0,), [1], None))


class Ends(unittest.TestCase):
    def test_first_and_last_cell(self):
        program = Program(2, [([(3, (1, 1))], (0, 0), 2), ([], (0, 0), -2), ([], (5, -1), 7)])
        self.assertEqual(first_cell(program), ((1, 1), 2))
        self.assertEqual(last_cell(program), ((5, -1), 7))
        self.assertEqual(first_cell(program, order=(2, 1)), ((5, -1), 7))
        self.assertEqual(last_cell(program, order=(2, 1)), ((2, 2), 2))
        self.assertEqual(first_cell(program, order=(-1, 2)), ((5, -1), 7))
        self.assertEqual(last_cell(program=program, order=(-1, 2)), ((1, 1), 2))
        self.assertEqual(first_cell(program=program, order=None), ((1, 1), 2))
        self.assertEqual(box(program), [(1, 5), (-1, 2)])
        self.assertEqual(box(program=-program), [(1, 5), (-1, 2)])

    def test_ties_go_on_to_the_next_axis(self):
        cube = Program(3, [([(2, (1, 0, 0)), (2, (0, 1, 0)), (2, (0, 0, 1))], (0, 0, 0), 1)])
        for order in all_orders(3):
            wanted = tuple(int(-axis in (order or ())) for axis in (1, 2, 3))
            self.assertEqual(first_cell(cube, order=order), (wanted, 1))
            self.assertEqual(last_cell(cube, order=order), (tuple(1 - number for number in wanted), 1))

    def test_programs_that_add_nothing(self):
        for nests in [[], [([], (1, 1), 0)], [([(0, (1, 0)), (BIG, (0, 1))], (0, 0), 5)],
                      [([(4, (1, 1))], (0, 0), 2), ([(4, (-1, -1))], (3, 3), -2)],
                      [([(BIG, (0, 0))], (3, 3), 1), ([], (3, 3), -BIG)]]:
            program = Program(2, nests)
            self.assertIsNone(box(program))
            for order in all_orders(2):
                self.assertIsNone(first_cell(program, order=order))
                self.assertIsNone(last_cell(program, order=order))

    def test_what_cancels_is_outside_the_box(self):
        frame = filled((0, 0), [10, 10]) - filled((0, 0), [10, 3]) - filled((0, 0), [4, 10]) + filled((0, 0), [4, 3])
        self.assertEqual(box(frame), [(4, 9), (3, 9)])
        self.assertEqual(first_cell(frame), ((4, 3), 1))


class Boxes(unittest.TestCase):
    def test_filled(self):
        self.assertEqual(filled((3,), [4]), Program(1, [([(4, (1,))], (3,), 1)]))
        self.assertEqual(filled((3,), [4]).axes, 1)
        self.assertEqual(filled(corner=(0, -1), sizes=[2, 1]), Program(2, [([(2, (1, 0))], (0, -1), 1)]))
        self.assertEqual(filled((1, 2, 3), [BIG, BIG, BIG]).total(), BIG ** 3)
        self.assertEqual(box(filled((1, -2, 3), [BIG, 1, 5])), [(1, BIG), (-2, -2), (3, 7)])
        for sizes in [[0, 5, 5], [5, 0, 5], [5, 5, 0], [0, 0, 0]]:
            self.assertEqual(filled((0, 0, 0), sizes), Program(3, []))

    def test_width_of_filled(self):
        for sizes in ([3], [3, 3], [3, 3, 3]):
            steps = [step for loops, place, amount in filled((0,) * len(sizes), sizes).nests() for count, step in loops]
            self.assertEqual(len(steps), len(sizes))

    def test_first_not_once(self):
        rows = Program(2, [([(4, (1, 0)), (6, (0, 1))], (0, 0), 1)])
        self.assertIsNone(first_not_once(rows, (0, 0), [4, 6]))
        self.assertEqual(first_not_once(rows, (0, 0), [4, 5]), ((0, 5), 1))
        self.assertEqual(first_not_once(rows, (0, 0), [4, 7]), ((0, 6), -1))
        self.assertEqual(first_not_once(rows, (0, 0), [4, 7], order=(-1, -2)), ((3, 6), -1))
        self.assertEqual(first_not_once(rows * 3, (0, 0), [4, 6]), ((0, 0), 2))
        self.assertEqual(first_not_once(rows * 3, (0, 1), [4, 5]), ((0, 0), 3))
        self.assertEqual(first_not_once(rows, (0, 0), [0, 6]), ((0, 0), 1))
        self.assertEqual(first_not_once(rows, (0, 0), [0, 6], order=(1, -2)), ((0, 5), 1))
        self.assertIsNone(first_not_once(Program(2, []), (0, 0), [0, 6]))
        self.assertIsNone(first_not_once(Program(2, []), (0, 0), [6, 0], order=(2, -1)))
        self.assertEqual(first_not_once(program=Program(1, []), corner=(5,), sizes=[2], order=None), ((5,), -1))

    def test_wrong_corners_and_sizes(self):
        for value in misfits() + [0, [1], (), ([1],), (1, True), (1, 2, 3, 4), (None,), POINT]:
            self.assertIs(raised(InvalidCell, filled, value, 5).value, value)
            self.assertIs(raised(InvalidCell, first_not_once, POINT, value, 5, order=9).value, value)
        for value in misfits() + [0, (2, 2), [], [2], [2, 2, 2], [2, -1], [-1, 2], [2, True], [2, None], [[2], 2]]:
            self.assertIs(raised(InvalidList, filled, (0, 0), value).value, value)
            self.assertIs(raised(InvalidList, first_not_once, POINT, (0, 0), value, order=9).value, value)

    def test_errors_in_order(self):
        for value in misfits() + [0, [], (1,)]:
            self.assertIs(raised(InvalidProgram, first_not_once, value, 5, 5, order=9).value, value)
        self.assertEqual(raised(UnlikeAxes, first_not_once, POINT, (0, 0), [1, 1], order=9).axes, (1, 2))
        self.assertEqual(raised(UnlikeAxes, first_not_once, Program(3, []), (0,), [0], order=(1,)).axes, (3, 1))
        self.assertEqual(raised(InvalidOrder, first_not_once, POINT, (0,), [1], order=(2,)).value, (2,))


class Results(unittest.TestCase):
    def test_nothing_is_changed_or_shared(self):
        nests = [([(3, (1, 2)), (2, (0, -1))], (5, 6), 2), ([(1, (0, 0))], (0, 0), 1)]
        sizes, corner, order = [4, 5], (0, 0), (-2, 1)
        program = Program(2, nests)
        calls = [lambda: first_apart(program, program * 2, order=order), lambda: first_cell(program),
                 lambda: box(program), lambda: first_not_once(program, corner, sizes, order=order),
                 lambda: filled(corner, sizes).nests(), lambda: last_cell(program, order=order)]
        for call in calls:
            one, other = call(), call()
            self.assertEqual(one, other)
            found = lists_within(one) + lists_within(other)
            self.assertEqual(len({id(part) for part in found}), len(found))
        self.assertEqual((program.nests(), sizes), (nests, [4, 5]))
        full = filled(corner, sizes)
        sizes[0] = 9
        self.assertEqual(box(full), [(0, 3), (0, 4)])
        ends = box(full)
        ends.append(1)
        self.assertEqual(box(full), [(0, 3), (0, 4)])


class Huge(unittest.TestCase):
    def setUp(self):
        self.begun = time.monotonic()

    def tearDown(self):
        self.assertLess(time.monotonic() - self.begun, SECONDS)

    def test_many_rounds(self):
        tiles = Program(2, [([(BIG, (8, 0)), (BIG, (0, 5)), (8, (1, 0)), (5, (0, 1))], (0, 0), 1)])
        self.assertIsNone(first_not_once(tiles, (0, 0), [8 * BIG, 5 * BIG]))
        self.assertEqual(first_not_once(tiles, (0, 0), [8 * BIG, 5 * BIG - 1]), ((0, 5 * BIG - 1), 1))
        self.assertEqual(first_not_once(tiles, (0, 0), [8 * BIG + 1, 5 * BIG]), ((8 * BIG, 0), -1))
        self.assertEqual(last_cell(tiles), ((8 * BIG - 1, 5 * BIG - 1), 1))
        self.assertEqual(first_cell(tiles - filled((0, 0), [8 * BIG, 1])), ((0, 1), 1))
        far = Program(1, [([(BIG, (6,)), (BIG, (10,))], (0,), 1)])
        self.assertEqual(first_apart(far, Program(1, [([(BIG, (10,))], (0,), 1)])), ((6,), 1))
        # The first cell that two pairs of rounds get to.
        once = Program(1, [([(5, (6,)), (BIG, (10,))], (0,), 1)])
        self.assertEqual(first_apart(far, once), ((30,), 1))

    def test_written_otherwise(self):
        nest = ([(BIG, (1, 0)), (BIG + 7, (3, -5)), (10 ** 30, (0, 2))], (-5, BIG), 3)
        whole = Program(2, [nest])
        others = [split(nest, 0, 10 ** 39), blocked(nest, 1, 10 ** 20 + 1), unrolled(nest, 2, 7), [turned(nest, 1)]]
        for nests in others + [[swapped(nest, 0, 2)]]:
            other = Program(2, nests)
            self.assertIsNone(first_apart(whole, other))
            self.assertIsNone(first_apart(whole, other * 11, modulus=10, order=(-2, 1)))
            self.assertEqual(first_apart(whole, other + Program(2, [([], (0, BIG), 9)])), ((0, BIG), -9))
            self.assertEqual(box(other), box(whole))
            for order in all_orders(2):
                self.assertEqual(first_cell(other, order=order), first_cell(whole, order=order))

    def test_at_the_limits(self):
        for axes in (1, 2, 3):
            chance = random.Random(axes)
            steps = [vector(chance, axes, 100) for k in range(12)]
            nests = [([(number(chance, 100), step) for step in chance.sample(steps, 6)], vector(chance, axes, 100),
                      number(chance, 100)) for k in range(15)]
            one = Program(axes, nests)
            other = Program(axes, [new for at, nest in enumerate(nests) for new in split(nest, at % 6, 10 ** 98)])
            end = last_cell(one)[0]
            more = other + Program(axes, [([], end, 5)])
            self.assertIsNone(first_apart(one, other))
            self.assertEqual(first_apart(one, more), (end, -5))
            self.assertIs(alike(one, other * 13, modulus=12), True)
            self.assertIs(alike(one, other * 13 + Program(axes, [([], end, 5)]), modulus=12), False)
            self.assertEqual(box(more - one), [(number, number) for number in end])
            self.assertEqual(box(one), box(other))
            middle = nests[3][1]
            self.assertEqual(first_cell(more - one + Program(axes, [([], middle, 5)])), (min(end, middle), 5))

    def test_returned_programs_at_the_limits(self):
        for axes in (1, 3):
            chance = random.Random(10 + axes)
            halves = []
            for half in range(2):
                steps = [vector(chance, axes, 100) for k in range(6)]
                halves.append([([(number(chance, 100), step) for step in steps], vector(chance, axes, 100),
                                number(chance, 100)) for k in range(10)])
            one, other = Program(axes, halves[0]), Program(axes, halves[1])
            pieces = Program(axes, [new for nest in halves[0] for new in split(nest, 2, 10 ** 98)])
            bits = Program(axes, [new for nest in halves[1] for new in split(nest, 5, 10 ** 98)])
            self.assertEqual(len(pieces * bits), 400)
            self.assertIsNone(first_apart(pieces * bits, one * other))
            self.assertIsNone(first_apart(pieces * bits * 3, one * other, modulus=2))
            end = last_cell(pieces * bits)
            self.assertEqual(end[0], tuple(a + b for a, b in zip(last_cell(one)[0], last_cell(other)[0])))
            self.assertEqual(end[1], last_cell(one)[1] * last_cell(other)[1])
            changed = pieces * bits + Program(axes, [([], end[0], 1)])
            self.assertEqual(first_apart(changed, one * other), (end[0], 1))

    def test_ends_of_400_nests(self):
        # The first nest begins before, and the last one ends behind all others: on every axis, for loops that go on.
        for axes, digits in [(1, 100), (3, 100), (2, 400)]:
            chance = random.Random(axes)
            steps = [tuple(number(chance, digits - 3) for axis in range(axes)) for k in range(12)]
            nests = [([(number(chance, 2), step) for step in steps], tuple(k * 10 ** digits for axis in range(axes)), k + 1)
                     for k in range(400)]
            program = Program(axes, nests)
            self.assertEqual(first_cell(program), (nests[0][1], 1))
            loops, place, amount = nests[399]
            end = tuple(place[axis] + sum((count - 1) * step[axis] for count, step in loops) for axis in range(axes))
            self.assertEqual(last_cell(program), (end, 400))
            self.assertEqual(box(program), list(zip(nests[0][1], end)))
            self.assertEqual(first_apart(program, Program(axes, nests[1:])), (nests[0][1], 1))
            self.assertEqual(first_apart(program, Program(axes, nests[:-1])), (place, 400))

    def test_spread_and_unrolled_into_400_nests(self):
        chance = random.Random(5)
        steps = [vector(chance, 2, 98) for k in range(6)]
        nest = ([(20, steps[0])] + [(number(chance, 98), step) for step in steps[1:]], vector(chance, 2, 98), 1)
        parts = [new for row in spread(nest, 0) for new in unrolled(row, 0, 20)]
        self.assertEqual(len(parts), 400)
        whole = Program(2, [nest])
        self.assertIsNone(first_apart(whole, Program(2, parts)))
        self.assertEqual(first_apart(whole, Program(2, parts[:-1])), first_cell(Program(2, parts[-1:])))
        self.assertEqual(box(whole - Program(2, parts[:-1])), box(Program(2, parts[-1:])))
        for order in all_orders(2):
            self.assertEqual(first_cell(Program(2, parts), order=order), first_cell(whole, order=order))

    def test_pieces_of_pieces(self):
        # One nest of twelve loops, cut up at random again and again.
        chance = random.Random(7)
        steps = [vector(chance, 3, 100) for k in range(12)]
        nest = ([(number(chance, 100), step) for step in steps], vector(chance, 3, 100), 3)
        parts = [nest]
        while len(parts) < 390:
            part = parts.pop(chance.randrange(len(parts)))
            at = chance.randrange(12)
            parts = parts + split(turned(part, at), at, chance.randint(0, part[0][at][0]))
        whole = Program(3, [nest])
        end = last_cell(whole)[0]
        self.assertIsNone(first_apart(whole, Program(3, parts)))
        self.assertEqual(first_apart(whole, Program(3, parts + [([], end, 1)])), (end, -1))
        self.assertEqual(box(whole - Program(3, parts[1:])), box(Program(3, parts[:1])))


if __name__ == "__main__":
    unittest.main()
