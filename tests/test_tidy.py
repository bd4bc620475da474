"""[40]: tidy programs."""

import random
import unittest

from addnests.errors import InvalidProgram
from addnests.nests import spread, split, swapped, turned
from addnests.programs import Program
from addnests.tidy import tidied
from tests.test_equal import number, small_nest, vector
from tests.tools import BIG, lists_within, misfits, raised, round_by_round


def tidy_nests(axes, nests):
    """The nests of the tidy form of a program of nests."""
    return tidied(Program(axes, nests)).nests()


class Steps(unittest.TestCase):
    def test_nests_that_add_nothing_are_left_out(self):
        nests = [([], (1,), 0), ([(3, (1,))], (2,), 5), ([(3, (1,)), (0, (2,))], (2,), 5), ([(0, (0,))], (9,), 1),
                 ([(BIG, (1,))], (0,), 0)]
        self.assertEqual(tidy_nests(1, nests), [([(3, (1,))], (2,), 5)])
        self.assertEqual(tidy_nests(2, []), [])
        self.assertEqual(tidy_nests(2, [([(0, (1, 1))], (0, 0), 1)]), [])

    def test_loops_of_one_round_are_left_out(self):
        nests = [([(1, (5, 5)), (2, (1, 0)), (1, (0, 0)), (1, (-1, 0))], (3, 4), 7)]
        self.assertEqual(tidy_nests(2, nests), [([(2, (1, 0))], (3, 4), 7)])

    def test_loops_that_do_not_move_multiply(self):
        nests = [([(4, (0, 0)), (2, (1, 0)), (BIG, (0, 0))], (3, 4), -7)]
        self.assertEqual(tidy_nests(2, nests), [([(2, (1, 0))], (3, 4), -28 * BIG)])

    def test_loops_that_go_back_are_turned(self):
        self.assertEqual(tidy_nests(1, [([(4, (-3,))], (0,), 1)]), [([(4, (3,))], (-9,), 1)])
        nests = [([(4, (0, -3)), (2, (1, -9)), (3, (-1, 9)), (5, (0, 1))], (0, 0), 1)]
        self.assertEqual(tidy_nests(2, nests), [
            ([(2, (1, -9)), (3, (1, -9)), (4, (0, 3)), (5, (0, 1))], (-2, 9), 1)])
        nests = [([(2, (0, 0, -1)), (2, (0, -1, 5)), (2, (0, 1, -5))], (0, 0, 0), 1)]
        self.assertEqual(tidy_nests(3, nests), [
            ([(2, (0, 0, 1)), (2, (0, 1, -5)), (2, (0, 1, -5))], (0, -1, 4), 1)])

    def test_loops_are_put_in_order(self):
        nests = [([(10, (1,)), (9, (2,)), (9, (1,)), (10, (-1,)), (2, (7,))], (0,), 1)]
        self.assertEqual(tidy_nests(1, nests), [([(2, (7,)), (9, (1,)), (9, (2,)), (10, (1,)), (10, (1,))], (-9,), 1)])

    def test_like_nests_become_one(self):
        nests = [([(2, (1,)), (3, (4,))], (0,), 5), ([(3, (4,)), (2, (-1,))], (1,), 6), ([(2, (1,)), (3, (4,))], (1,), 8)]
        self.assertEqual(tidy_nests(1, nests), [([(2, (1,)), (3, (4,))], (0,), 11), ([(2, (1,)), (3, (4,))], (1,), 8)])
        nests = [([], (0,), 5), ([(1, (1,))], (0,), -2), ([(3, (0,))], (0,), -1), ([], (1,), 1)]
        self.assertEqual(tidy_nests(1, nests), [([], (1,), 1)])
        # What they come to has to be looked at once more: 0 is left out only after all are added.
        nests = [([], (0,), 1), ([], (0,), -1), ([], (0,), 4)]
        self.assertEqual(tidy_nests(1, nests), [([], (0,), 4)])

    def test_nests_are_put_in_order(self):
        nests = [([(3, (1,))], (0,), 1), ([], (9,), 1), ([(2, (5,)), (2, (5,))], (7,), 1), ([(2, (5,))], (8,), 9),
                 ([(2, (5,))], (-8,), 10), ([(10, (1,))], (0,), 1), ([], (-9,), 2)]
        self.assertEqual(tidy_nests(1, nests), [
            ([], (-9,), 2), ([], (9,), 1), ([(2, (5,))], (-8,), 10), ([(2, (5,))], (8,), 9),
            ([(2, (5,)), (2, (5,))], (7,), 1), ([(3, (1,))], (0,), 1), ([(10, (1,))], (0,), 1)])

    def test_equal_programs_can_have_unlike_tidy_forms(self):
        nest = ([(4, (1,))], (0,), 1)
        self.assertNotEqual(tidy_nests(1, [nest]), tidy_nests(1, split(nest, 0, 2)))


class All(unittest.TestCase):
    def test_against_round_by_round(self):
        chance = random.Random(1)
        for trial in range(2000):
            axes = chance.randint(1, 3)
            nests = [small_nest(chance, axes) for k in range(chance.randint(0, 4))]
            program = Program(axes, nests)
            tidy = tidied(program)
            self.assertEqual(round_by_round(tidy.nests()), round_by_round(nests))
            self.assertIs(tidy == program, True)
            self.assertEqual(tidy.axes, axes)
            self.assertEqual(tidied(tidy).nests(), tidy.nests())
            self.assertEqual(tidy.nests(), sorted(tidy.nests()))
            for loops, place, amount in tidy.nests():
                self.assertEqual(loops, sorted(loops))
                self.assertTrue(all(count > 1 and step > (0,) * axes for count, step in loops))
                self.assertNotEqual(amount, 0)
            pairs = [(loops, place) for loops, place, amount in tidy.nests()]
            self.assertTrue(all(pair not in pairs[:at] for at, pair in enumerate(pairs)))

    def test_what_tidying_undoes(self):
        chance = random.Random(2)
        for trial in range(200):
            nests = [small_nest(chance, 2) for k in range(3)]
            other = []
            for nest in nests:
                for at in range(len(nest[0])):
                    nest = swapped(turned(nest, at), at, chance.randrange(len(nest[0])))
                other = other + [nest, ([], nest[1], 3), ([], nest[1], -3)]
            chance.shuffle(other)
            self.assertEqual(tidy_nests(2, other), tidy_nests(2, nests))

    def test_nothing_is_changed_or_shared(self):
        nests = [([(4, (-3,)), (1, (2,)), (3, (0,))], (0,), 1), ([(4, (3,))], (1,), 1)]
        program = Program(1, nests)
        tidy = tidied(program=program)
        self.assertEqual(program.nests(), [([(4, (-3,)), (1, (2,)), (3, (0,))], (0,), 1), ([(4, (3,))], (1,), 1)])
        found = lists_within(tidy.nests()) + lists_within(tidy.nests()) + lists_within(tidied(tidy).nests())
        self.assertEqual(len({id(part) for part in found}), len(found))
        tidied(tidy).nests()[0][0].append(7)
        self.assertEqual(tidy.nests(), [([(4, (3,))], (-9,), 3), ([(4, (3,))], (1,), 1)])

    def test_wrong_programs(self):
        for value in misfits() + [0, [], (), [([], (0,), 1)], (1, []), ([], (0,), 1)]:
            self.assertIs(raised(InvalidProgram, tidied, value).value, value)

    def test_at_the_limits(self):
        chance = random.Random(3)
        loops = [(number(chance, 400), vector(chance, 3, 400)) for k in range(10)]
        wide = loops[:5] + [(1, (1, 1, 1)), (20, (0, 0, 0))] + loops[5:]
        row = ([(20, (1, 0, 0))] + wide, vector(chance, 3, 400), 1)
        nests = spread(row, 0) * 20
        self.assertEqual(len(nests), 400)
        forwards = row[1]
        for count, step in loops:
            if step < (0, 0, 0):
                forwards = tuple(a + (count - 1) * b for a, b in zip(forwards, step))
        loops = sorted((count, max(step, tuple(-far for far in step))) for count, step in loops)
        self.assertEqual(tidy_nests(3, nests), [
            (loops, (forwards[0] + k, forwards[1], forwards[2]), 400) for k in range(20)])


if __name__ == "__main__":
    unittest.main()
