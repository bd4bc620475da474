"""[2], [10], [11], [12]: cells, nests, and nests written otherwise."""

import copy
import unittest

from addnests.errors import InvalidNest, InvalidNumber
from addnests.nests import blocked, is_cell, is_nest, joined, split, spread, swapped, turned, unrolled
from addnests.programs import Program
from tests.tools import BIG, lists_within, misfits, not_numbers, raised, round_by_round

FLAT = ([(7, (1,)), (2, (10,))], (5,), 3)
WIDE = ([(3, (1, -2)), (0, (0, 0)), (1, (5, 5))], (-1, 4), -2)
DEEP = ([(4, (1, 0, 2)), (5, (0, -3, 1)), (1, (7, 7, 7))], (1, 2, 3), 1)
HUGE = ([(2, (3,)), (BIG, (-10 ** 99,)), (0, (4,)), (1, (5,))], (10 ** 99,), -10 ** 99)


def bad_nests():
    """Values that are nests for no number of axes."""
    cells = [(1, 2, 3, 4), (), (1, True), (None,), ("1",), [1]]
    good = FLAT[0]
    nests = [(good, cell, 1) for cell in cells]
    nests += [([(2, cell)], (1,), 1) for cell in cells]
    nests += [([(count, (1,))], (1,), 1) for count in [-1, -BIG] + not_numbers()]
    nests += [(good, (1,), amount) for amount in not_numbers()]
    nests += [(loops, (1,), 1) for loops in [tuple(good), None, 1, "ab", {}, {0: good[0]}, good[0]]]
    nests += [([loop], (1,), 1) for loop in [(1,), (), (1, (1,), 1), [1, (1,)], (1, 1), (1, [1]), ((1,), 1), None, 5]]
    nests += [(good, (1,)), (good, (1,), 1, 1), list(FLAT), ([(2, (1, 2))], (1,), 1), ([(2, (1,))], (1, 2), 1)]
    nests += [((1,), good, 1), ([good[0], (2, (1, 1))], (1,), 1)]
    return nests + misfits() + [[], (), 5, [FLAT], Program(1, [FLAT])]


class Forms(unittest.TestCase):
    def test_cells(self):
        for axes in (1, 2, 3):
            for numbers in [[0, 0, 0], [-1, 5, -7], [10 ** 100, -10 ** 100, 1]]:
                cell = tuple(numbers[:axes])
                self.assertIs(is_cell(cell, axes), True)
                self.assertIs(is_cell(value=cell, axes=axes), True)
                self.assertIs(is_cell(list(cell), axes), False)
                self.assertIs(is_cell(cell + (1,), axes), False)
                self.assertIs(is_cell(cell[1:], axes), False)
                for wrong in not_numbers():
                    for at in range(axes):
                        self.assertIs(is_cell(cell[:at] + (wrong,) + cell[at + 1:], axes), False)
            for wrong in misfits() + [5, [], (), Program(axes, []), FLAT]:
                self.assertIs(is_cell(wrong, axes), False)

    def test_nests(self):
        for nest, axes in [(FLAT, 1), (WIDE, 2), (DEEP, 3), (HUGE, 1), (([], (0,), 0), 1), (([], (0, 0, 0), -1), 3)]:
            for other in (1, 2, 3):
                self.assertIs(is_nest(nest, other), other == axes)
            self.assertIs(is_nest(value=nest, axes=axes), True)
        for value in bad_nests():
            for axes in (1, 2, 3):
                with self.subTest(value=value, axes=axes):
                    self.assertIs(is_nest(value, axes), False)

    def test_axes(self):
        for axes in [0, 4, -1, BIG, -BIG] + not_numbers():
            for value in [FLAT, (1,), None, [], {}, "a", True]:
                for call in (is_cell, is_nest):
                    with self.subTest(axes=axes, value=value):
                        self.assertIs(raised(InvalidNumber, call, value, axes).value, axes)


class Errors(unittest.TestCase):
    CALLS = [
        (split, 0), (blocked, 1), (unrolled, 1), (spread, None), (turned, None), (swapped, 0),
    ]

    def test_nest_first(self):
        for value in bad_nests():
            for call, more in self.CALLS:
                rest = [] if more is None else [None]
                with self.subTest(call=call.__name__, value=value):
                    self.assertIs(raised(InvalidNest, call, value, None, *rest).value, value)
            self.assertIs(raised(InvalidNest, joined, value, None, None).value, value)
            self.assertIs(raised(InvalidNest, joined, FLAT, value, None).value, value)

    def test_then_the_index(self):
        for at in [-1, 2, BIG, -BIG] + not_numbers():
            for call, more in self.CALLS:
                rest = [] if more is None else [None]
                with self.subTest(call=call.__name__, at=at):
                    self.assertIs(raised(InvalidNumber, call, FLAT, at, *rest).value, at)
            self.assertIs(raised(InvalidNumber, joined, FLAT, ([], (1,), 0), at).value, at)
            self.assertIs(raised(InvalidNumber, swapped, FLAT, 1, at).value, at)
        for call, more in self.CALLS:
            rest = [] if more is None else [more]
            self.assertEqual(raised(InvalidNumber, call, ([], (0,), 1), 0, *rest).value, 0)

    def test_then_the_number(self):
        wrong = {
            split: [-1, 8, BIG],
            blocked: [0, -1, -BIG],
            unrolled: [0, -1, 21, BIG],
        }
        for call, numbers in wrong.items():
            for number in numbers + not_numbers():
                with self.subTest(call=call.__name__, number=number):
                    self.assertIs(raised(InvalidNumber, call, FLAT, 0, number).value, number)

    def test_spread_tells_the_count(self):
        for count in (61, BIG):
            self.assertEqual(raised(InvalidNumber, spread, ([(count, (1,))], (0,), 1), 0).value, count)

    def test_joined_takes_nests_of_as_many_axes(self):
        self.assertIs(raised(InvalidNest, joined, FLAT, WIDE, 0).value, WIDE)
        self.assertIs(raised(InvalidNest, joined, DEEP, FLAT, 9).value, FLAT)


class Rewriting(unittest.TestCase):
    def test_split(self):
        left, right = ([(0, (1,)), (2, (10,))], (5,), 3), ([(7, (1,)), (2, (10,))], (5,), 3)
        self.assertEqual(split(FLAT, 0, 0), [left, right])
        left, right = ([(7, (1,)), (2, (10,))], (5,), 3), ([(0, (1,)), (2, (10,))], (12,), 3)
        self.assertEqual(split(nest=FLAT, at=0, rounds=7), [left, right])
        self.assertEqual(split(FLAT, 1, 1), [([(7, (1,)), (1, (10,))], (5,), 3), ([(7, (1,)), (1, (10,))], (15,), 3)])
        self.assertEqual(split(WIDE, 1, 0), [WIDE, WIDE])
        self.assertEqual(split(HUGE, 1, BIG - 1)[1], (
            [(2, (3,)), (1, (-10 ** 99,)), (0, (4,)), (1, (5,))], (10 ** 99 - (BIG - 1) * 10 ** 99,), -10 ** 99))

    def test_blocked(self):
        self.assertEqual(blocked(FLAT, 0, 1), [([(7, (1,)), (1, (1,)), (2, (10,))], (5,), 3)])
        self.assertEqual(blocked(FLAT, 0, 7), [([(1, (7,)), (7, (1,)), (2, (10,))], (5,), 3)])
        self.assertEqual(blocked(nest=FLAT, at=1, size=3), [
            ([(7, (1,)), (0, (30,)), (3, (10,))], (5,), 3), ([(7, (1,)), (2, (10,))], (5,), 3)])
        self.assertEqual(blocked(WIDE, 1, 4), [([(3, (1, -2)), (0, (0, 0)), (4, (0, 0)), (1, (5, 5))], (-1, 4), -2)])
        self.assertEqual(blocked(HUGE, 1, 10 ** 39 + 1), [
            ([(2, (3,)), (9, (-10 ** 99 * (10 ** 39 + 1),)), (10 ** 39 + 1, (-10 ** 99,)), (0, (4,)), (1, (5,))],
             (10 ** 99,), -10 ** 99),
            ([(2, (3,)), (10 ** 39 - 9, (-10 ** 99,)), (0, (4,)), (1, (5,))],
             (10 ** 99 - 9 * (10 ** 39 + 1) * 10 ** 99,), -10 ** 99)])

    def test_unrolled(self):
        self.assertEqual(unrolled(FLAT, 0, 1), [FLAT])
        self.assertEqual(unrolled(nest=FLAT, at=1, size=3), [
            ([(7, (1,)), (1, (30,))], (5,), 3), ([(7, (1,)), (1, (30,))], (15,), 3), ([(7, (1,)), (0, (30,))], (25,), 3)])
        last = unrolled(WIDE, 1, 20)
        self.assertEqual(last, [WIDE] * 20)
        last = unrolled(HUGE, 1, 20)
        self.assertEqual(len(last), 20)
        self.assertEqual(last[19], (
            [(2, (3,)), (BIG // 20, (-20 * 10 ** 99,)), (0, (4,)), (1, (5,))], (-18 * 10 ** 99,), -10 ** 99))
        uneven = unrolled(([(BIG + 1, (1,))], (0,), 1), 0, 3)
        self.assertEqual([nest[0][0][0] for nest in uneven], [BIG // 3 + 1, BIG // 3 + 1, BIG // 3])

    def test_spread(self):
        self.assertEqual(spread(nest=WIDE, at=0), [
            ([(0, (0, 0)), (1, (5, 5))], (-1 + k, 4 - 2 * k), -2) for k in range(3)])
        self.assertEqual(spread(WIDE, 1), [])
        self.assertEqual(spread(WIDE, 2), [(WIDE[0][:2], (-1, 4), -2)])
        self.assertEqual(spread(([(60, (2,))], (1,), 1), 0), [([], (1 + 2 * k,), 1) for k in range(60)])

    def test_first_and_last_arguments(self):
        for count in (0, 1, 60, 61, BIG):
            nest = ([(count, (3,))], (5,), 2)
            self.assertEqual(split(nest, 0, 0), [([(0, (3,))], (5,), 2), nest])
            self.assertEqual(split(nest, 0, count), [nest, ([(0, (3,))], (5 + 3 * count,), 2)])
            self.assertEqual(blocked(nest, 0, 1), [([(count, (3,)), (1, (3,))], (5,), 2)])
            self.assertEqual(blocked(nest, 0, count + 1), [([(0, (3 * count + 3,)), (count + 1, (3,))], (5,), 2)]
                             + [nest] * (count > 0))
            self.assertEqual(unrolled(nest, 0, 1), [nest])
            last = ([((count - 19 + 19) // 20, (60,))], (5 + 19 * 3,), 2)
            self.assertEqual((len(unrolled(nest, 0, 20)), unrolled(nest, 0, 20)[19]), (20, last))
            self.assertEqual(turned(nest, 0), ([(count, (-3,))], (2 + 3 * count,), 2))
            self.assertEqual(swapped(nest, 0, 0), nest)
            self.assertEqual(joined(nest, ([(0, (3,))], (5 + 3 * count,), 2), 0), nest)
            if count <= 60:
                self.assertEqual(spread(nest, 0), [([], (5 + 3 * done,), 2) for done in range(count)])
            else:
                self.assertEqual(raised(InvalidNumber, spread, nest, 0).value, count)
            for wrong in (-1, count + 1):
                self.assertEqual(raised(InvalidNumber, split, nest, 0, wrong).value, wrong)
            for wrong in (0, 21):
                self.assertEqual(raised(InvalidNumber, unrolled, nest, 0, wrong).value, wrong)
            self.assertEqual(raised(InvalidNumber, blocked, nest, 0, 0).value, 0)

    def test_turned(self):
        self.assertEqual(turned(nest=WIDE, at=0), ([(3, (-1, 2)), (0, (0, 0)), (1, (5, 5))], (1, 0), -2))
        self.assertEqual(turned(([(0, (1, -2))], (5, 5), 1), 0), ([(0, (-1, 2))], (4, 7), 1))
        self.assertEqual(turned(WIDE, 2), ([(3, (1, -2)), (0, (0, 0)), (1, (-5, -5))], (-1, 4), -2))
        self.assertEqual(turned(HUGE, 1)[1], (10 ** 99 - (BIG - 1) * 10 ** 99,))
        self.assertEqual(turned(turned(HUGE, 1), 1), HUGE)

    def test_swapped(self):
        self.assertEqual(swapped(nest=DEEP, at=2, other=0), ([DEEP[0][2], DEEP[0][1], DEEP[0][0]], (1, 2, 3), 1))
        self.assertEqual(swapped(DEEP, 1, 1), DEEP)
        self.assertEqual(swapped(DEEP, 0, 1), swapped(DEEP, 1, 0))

    def test_joined_undoes_split(self):
        for nest in (FLAT, WIDE, DEEP, HUGE):
            for at, (count, step) in enumerate(nest[0]):
                for rounds in sorted({0, count // 2, count}):
                    one, other = split(nest, at, rounds)
                    self.assertEqual(joined(one, other, at), nest)
                    self.assertEqual(joined(one=one, other=other, at=at), nest)

    def test_joined_of_nests_that_do_not_fit(self):
        one, other = split(FLAT, 0, 3)
        self.assertIsNone(joined(other, one, 0))
        self.assertIsNone(joined(one, other, 1))
        self.assertIsNone(joined(one, one, 0))
        loops, place, amount = other
        self.assertIsNone(joined(one, (loops, (9,), amount), 0))
        self.assertIsNone(joined(one, (loops, place, 4), 0))
        self.assertIsNone(joined(one, ([(4, (2,)), (2, (10,))], place, amount), 0))
        self.assertIsNone(joined(one, ([(4, (1,)), (3, (10,))], place, amount), 0))
        self.assertIsNone(joined(one, ([(4, (1,))], place, amount), 0))
        self.assertIsNone(joined(one, ([(4, (1,))], place, amount), 1))
        self.assertIsNone(joined(one, ([], place, amount), 0))
        self.assertIsNone(joined(one, (loops + [(1, (0,))], place, amount), 0))
        self.assertEqual(joined(([(2, (0,))], (1,), 1), ([(3, (0,))], (1,), 1), 0), ([(5, (0,))], (1,), 1))

    def test_the_same_is_added(self):
        for nest in (FLAT, WIDE, DEEP, ([(5, (2, 1)), (3, (0, 0)), (4, (-2, -1))], (0, 1), -3)):
            before = round_by_round([nest])
            for at, (count, step) in enumerate(nest[0]):
                for rounds in range(count + 1):
                    self.assertEqual(round_by_round(split(nest, at, rounds)), before)
                for size in range(1, 9):
                    self.assertEqual(round_by_round(blocked(nest, at, size)), before)
                    self.assertEqual(round_by_round(unrolled(nest, at, size)), before)
                    self.assertEqual(len(unrolled(nest, at, size)), size)
                self.assertEqual(round_by_round(spread(nest, at)), before)
                self.assertEqual(round_by_round([turned(nest, at)]), before)
                for other in range(len(nest[0])):
                    self.assertEqual(round_by_round([swapped(nest, at, other)]), before)


class Ownership(unittest.TestCase):
    def results(self, nest):
        one, other = split(nest, 0, 3)
        return [
            split(nest, 0, 3), blocked(nest, 0, 3), unrolled(nest, 1, 4), spread(nest, 1), [turned(nest, 0)],
            [swapped(nest, 0, 0)], [joined(one, other, 0)], split(nest, 0, 0), unrolled(nest, 0, 1),
        ]

    def test_no_list_is_shared(self):
        nest = copy.deepcopy(FLAT)
        for result in self.results(nest):
            found = lists_within(result) + lists_within(nest)
            self.assertEqual(len({id(one) for one in found}), len(found))

    def test_arguments_stay_and_may_change_later(self):
        nest = copy.deepcopy(FLAT)
        results = self.results(nest)
        self.assertEqual(nest, FLAT)
        before = copy.deepcopy(results)
        nest[0].clear()
        self.assertEqual(results, before)
        for one in lists_within(results):
            one.append(None)
        self.assertEqual(self.results(copy.deepcopy(FLAT)), before)


if __name__ == "__main__":
    unittest.main()
