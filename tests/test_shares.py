"""[50], [51]: rounds shared out among workers."""

import random
import time
import unittest

from addnests.compare import first_apart
from addnests.errors import InvalidList, InvalidNest, InvalidNumber, InvalidOrder, InvalidProgram, UnlikeAxes
from addnests.programs import Program
from addnests.shares import by_blocks, by_turns, first_wrong
from tests.test_equal import number, small_nest, vector
from tests.tools import BIG, lists_within, misfits, not_numbers, raised, round_by_round

SECONDS = 20


def rounds_of(nest, at):
    """For each round of a loop of a nest, in order, where the nest has then got to."""
    loops, place, amount = nest
    count, step = loops[at]
    return [tuple(a + done * far for a, far in zip(place, step)) for done in range(count)]


class Shares(unittest.TestCase):
    def test_by_blocks(self):
        nest = ([(2, (0, 1)), (7, (3, -1))], (5, 5), 4)
        self.assertEqual(by_blocks(nest, 1, 3), [
            ([(2, (0, 1)), (3, (3, -1))], (5, 5), 4),
            ([(2, (0, 1)), (2, (3, -1))], (14, 2), 4),
            ([(2, (0, 1)), (2, (3, -1))], (20, 0), 4)])
        self.assertEqual(by_blocks(nest, 0, 1), [nest])
        self.assertEqual(by_blocks(nest=nest, at=0, workers=2), [
            ([(1, (0, 1)), (7, (3, -1))], (5, 5), 4), ([(1, (0, 1)), (7, (3, -1))], (5, 6), 4)])

    def test_by_turns(self):
        nest = ([(2, (0, 1)), (7, (3, -1))], (5, 5), 4)
        self.assertEqual(by_turns(nest, 1, 3), [
            ([(2, (0, 1)), (3, (9, -3))], (5, 5), 4),
            ([(2, (0, 1)), (2, (9, -3))], (8, 4), 4),
            ([(2, (0, 1)), (2, (9, -3))], (11, 3), 4)])
        self.assertEqual(by_turns(nest, 0, 1), [nest])
        self.assertEqual(by_turns(nest=nest, at=0, workers=2), [
            ([(1, (0, 2)), (7, (3, -1))], (5, 5), 4), ([(1, (0, 2)), (7, (3, -1))], (5, 6), 4)])

    def test_workers_without_rounds(self):
        nest = ([(2, (3,))], (5,), 4)
        self.assertEqual(by_blocks(nest, 0, 4), [
            ([(1, (3,))], (5,), 4), ([(1, (3,))], (8,), 4), ([(0, (3,))], (11,), 4), ([(0, (3,))], (11,), 4)])
        self.assertEqual(by_turns(nest, 0, 4), [
            ([(1, (12,))], (5,), 4), ([(1, (12,))], (8,), 4), ([(0, (12,))], (11,), 4), ([(0, (12,))], (14,), 4)])
        nest = ([(0, (3,))], (5,), 4)
        self.assertEqual(by_blocks(nest, 0, 2), [([(0, (3,))], (5,), 4)] * 2)
        self.assertEqual(by_turns(nest, 0, 2), [([(0, (6,))], (5,), 4), ([(0, (6,))], (8,), 4)])

    def test_each_worker_gets_its_rounds(self):
        for count in range(14):
            nest = ([(2, (100,)), (count, (-3,)), (3, (1000,))], (7,), 1)
            rounds = rounds_of(nest, 1)
            for workers in (1, 2, 3, 5, 7, 12, 13, 14, 60):
                blocks = [rounds_of(share, 1) for share in by_blocks(nest, 1, workers)]
                turns = [rounds_of(share, 1) for share in by_turns(nest, 1, workers)]
                self.assertEqual([one for share in blocks for one in share], rounds)
                self.assertEqual(turns, [rounds[k::workers] for k in range(workers)])
                sizes = [count // workers + 1] * (count % workers) + [count // workers] * (workers - count % workers)
                self.assertEqual([len(share) for share in blocks], sizes)
                self.assertEqual([len(share) for share in turns], sizes)
                for share in by_blocks(nest, 1, workers) + by_turns(nest, 1, workers):
                    self.assertEqual((share[0][::2], share[2]), (nest[0][::2], 1))
                self.assertEqual({share[0][1][1] for share in by_turns(nest, 1, workers)}, {(-3 * workers,)})
                self.assertEqual({share[0][1][1] for share in by_blocks(nest, 1, workers)}, {(-3,)})

    def test_together_they_add_the_same(self):
        chance = random.Random(1)
        for trial in range(500):
            axes = chance.randint(1, 3)
            nest = small_nest(chance, axes)
            for at in range(len(nest[0])):
                workers = chance.randint(1, 6)
                for shares in (by_blocks(nest, at, workers), by_turns(nest, at, workers)):
                    self.assertEqual(len(shares), workers)
                    self.assertEqual(round_by_round(shares), round_by_round([nest]))

    def test_many_rounds(self):
        nest = ([(BIG + 7, (1, -BIG)), (BIG, (3, 4))], (0, 0), 1)
        shares = by_blocks(nest, 0, 60)
        self.assertEqual(sum(share[0][0][0] for share in shares), BIG + 7)
        self.assertEqual(shares[59][1], (BIG + 7 - BIG // 60, -BIG * (BIG + 7 - BIG // 60)))
        shares = by_turns(nest, 0, 60)
        self.assertEqual(sum(share[0][0][0] for share in shares), BIG + 7)
        self.assertEqual(shares[59], ([((BIG + 7) // 60, (60, -60 * BIG)), (BIG, (3, 4))], (59, -59 * BIG), 1))

    def test_wrong_nests(self):
        for share in (by_blocks, by_turns):
            for value in misfits() + [0, [], (), ([], (0,)), ([(1, (0, 0))], (0,), 1), ([(-1, (0,))], (0,), 1),
                                      ([(1, (0,))], (0,), True), ([(1, (0,) * 4)], (0,) * 4, 1), (((1, (0,)),), (0,), 1)]:
                self.assertIs(raised(InvalidNest, share, value, -1, 0).value, value)

    def test_wrong_loops_and_workers(self):
        nest = ([(3, (1,)), (2, (5,))], (0,), 1)
        for share in (by_blocks, by_turns):
            for value in not_numbers() + [-1, 2, BIG]:
                self.assertIs(raised(InvalidNumber, share, nest, value, 0).value, value)
            for value in not_numbers() + [-1, 0, 61, BIG]:
                self.assertIs(raised(InvalidNumber, share, nest, 1, value).value, value)
            self.assertEqual(raised(InvalidNumber, share, ([], (0,), 1), 0, 1).value, 0)
            self.assertEqual(len(share(nest, 1, 60)), 60)

    def test_nothing_is_changed_or_shared(self):
        loops = [(3, (1,)), (2, (5,))]
        nest = (loops, (0,), 1)
        for share in (by_blocks, by_turns):
            found = lists_within(share(nest, 0, 5)) + lists_within(share(nest, 0, 5)) + [loops]
            self.assertEqual(len({id(part) for part in found}), len(found))
            share(nest, 0, 1)[0][0].append(1)
        self.assertEqual(loops, [(3, (1,)), (2, (5,))])


class FirstWrong(unittest.TestCase):
    def test_first_wrong(self):
        nest = ([(10, (4,)), (3, (1,))], (0,), 1)
        whole = Program(1, [nest])
        for nests in (by_blocks(nest, 0, 4), by_turns(nest, 0, 4), by_turns(nest, 1, 4)):
            shares = [Program(1, [share]) for share in nests]
            self.assertIsNone(first_wrong(shares, whole))
            self.assertIsNone(first_wrong(shares[::-1], whole, order=(-1,)))
            for k in range(4):
                for order in (None, (1,), (-1,)):
                    missing = first_apart(Program(1, []), shares[k], order=order)
                    self.assertEqual(first_wrong(shares[:k] + shares[k + 1:], whole, order=order), missing)
                    twice = first_apart(shares[k], Program(1, []), order=order)
                    self.assertEqual(first_wrong(shares=shares + [shares[k]], whole=whole, order=order), twice)

    def test_against_round_by_round(self):
        chance = random.Random(2)
        for trial in range(500):
            axes = chance.randint(1, 2)
            shares = [[small_nest(chance, axes) for k in range(chance.randint(0, 2))] for share in range(chance.randint(0, 3))]
            whole = [nest for share in shares for nest in share]
            if trial & 1:
                whole = whole + [small_nest(chance, axes)]
            left = round_by_round([nest for share in shares for nest in share])
            right = round_by_round(whole)
            parts = {cell for cell in {**left, **right} if left.get(cell, 0) != right.get(cell, 0)}
            wanted = (min(parts), left.get(min(parts), 0) - right.get(min(parts), 0)) if parts else None
            shares = [Program(axes, share) for share in shares]
            self.assertEqual(first_wrong(shares, Program(axes, whole)), wanted)

    def test_no_shares(self):
        self.assertIsNone(first_wrong([], Program(2, [])))
        self.assertIsNone(first_wrong([Program(2, []), Program(2, [])], Program(2, [([(0, (1, 1))], (0, 0), 1)])))
        self.assertEqual(first_wrong([], Program(2, [([(2, (1, 1))], (0, 0), 3)]), order=(-2, 1)), ((1, 1), -3))

    def test_errors_in_order(self):
        point, square = Program(1, [([], (0,), 1)]), Program(2, [])
        for value in misfits() + [0, (), (point,), point]:
            self.assertIs(raised(InvalidList, first_wrong, value, 5, order=9).value, value)
        for value in misfits() + [0, [], (), [point], ([], (0,), 1)]:
            self.assertIs(raised(InvalidProgram, first_wrong, [point, value, 7], 5, order=9).value, value)
            self.assertIs(raised(InvalidProgram, first_wrong, [point, square], value, order=9).value, value)
            self.assertIs(raised(InvalidProgram, first_wrong, [], value, order=9).value, value)
        error = raised(UnlikeAxes, first_wrong, [point, square, Program(3, [])], point, order=9)
        self.assertEqual(error.axes, (2, 1))
        error = raised(UnlikeAxes, first_wrong, [point, point], Program(3, []), order=9)
        self.assertEqual(error.axes, (1, 3))
        for value in misfits()[1:] + [0, 1, [1], (2,), (0,), (1, 2), (True,), point]:
            self.assertIs(raised(InvalidOrder, first_wrong, [point], point, order=value).value, value)
            self.assertIs(raised(InvalidOrder, first_wrong, [], point, order=value).value, value)
        self.assertIsNotNone(raised(TypeError, first_wrong, [point], point, None))

    def test_shares_are_not_changed(self):
        shares = [Program(1, [([(2, (1,))], (0,), 1)]), Program(1, [])]
        whole = Program(1, [([(3, (1,))], (0,), 1)])
        self.assertEqual(first_wrong(shares, whole), ((2,), -1))
        self.assertEqual([share.nests() for share in shares], [[([(2, (1,))], (0,), 1)], []])
        self.assertEqual(whole.nests(), [([(3, (1,))], (0,), 1)])
        self.assertEqual(len(shares), 2)


class Huge(unittest.TestCase):
    def test_at_the_limits(self):
        for axes in (1, 3):
            chance = random.Random(axes)
            begun = time.monotonic()
            loops = [(number(chance, 99), vector(chance, axes, 98)) for k in range(6)]
            nest = (loops, vector(chance, axes, 100), number(chance, 100))
            whole = Program(axes, [nest])
            shares = [part for share in by_turns(nest, 0, 20) for part in by_blocks(share, 5, 20)]
            self.assertEqual(len(shares), 400)
            hands = [Program(axes, [share]) for share in shares]
            self.assertIsNone(first_wrong(hands, whole))
            self.assertEqual(first_wrong(hands[:-1], whole), first_apart(Program(axes, []), hands[-1]))
            shares = [part for share in by_turns(nest, 3, 60) for part in by_turns(share, 4, 6)]
            hands = [Program(axes, shares[k::60]) for k in range(60)]
            self.assertIsNone(first_wrong(hands, whole))
            order = tuple(range(-axes, 0))
            twice = first_wrong(hands + [hands[7]], whole, order=order)
            self.assertEqual(twice, first_apart(hands[7], Program(axes, []), order=order))
            self.assertLess(time.monotonic() - begun, SECONDS)


if __name__ == "__main__":
    unittest.main()
