"""The examples of the document, word for word, and the names of its interface."""

import inspect
import unittest

from addnests import errors, nests, programs


class Examples(unittest.TestCase):
    def test_nests(self):
        from addnests.nests import blocked, is_nest, split, spread, swapped, turned, unrolled
        nest = ([(7, (1,)), (2, (10,))], (5,), 3)
        self.assertEqual(
            [is_nest(nest, 1), split(nest, 0, 3), blocked(nest, 0, 3), unrolled(nest, 0, 2), spread(nest, 1), turned(nest, 0), swapped(nest, 0, 1)],
            [True, [([(3, (1,)), (2, (10,))], (5,), 3), ([(4, (1,)), (2, (10,))], (8,), 3)], [([(2, (3,)), (3, (1,)), (2, (10,))], (5,), 3), ([(1, (1,)), (2, (10,))], (11,), 3)], [([(4, (2,)), (2, (10,))], (5,), 3), ([(3, (2,)), (2, (10,))], (6,), 3)], [([(7, (1,))], (5,), 3), ([(7, (1,))], (15,), 3)], ([(7, (-1,)), (2, (10,))], (11,), 3), ([(2, (10,)), (7, (1,))], (5,), 3)])

    def test_programs(self):
        from addnests.programs import Program
        row = Program(1, [([(10 ** 20, (1,))], (0,), 1)])
        ends = Program(1, [([], (0,), 1), ([], (10 ** 20,), -1)])
        step = Program(1, [([], (0,), 1), ([], (1,), -1)])
        pairs = Program(1, [([(5 * 10 ** 19, (2,)), (2, (1,))], (0,), 1)])
        self.assertEqual(
            [row == pairs, row * step == ends, row.total(), (row * row).total(), row == row.shifted((1,)), row.looped(3, (10 ** 20,)) == Program(1, [([(3 * 10 ** 20, (1,))], (0,), 1)])],
            [True, True, 100000000000000000000, 10000000000000000000000000000000000000000, False, True])


class Interface(unittest.TestCase):
    def test_functions(self):
        listed = {
            "is_cell": ["value", "axes"],
            "is_nest": ["value", "axes"],
            "split": ["nest", "at", "rounds"],
            "blocked": ["nest", "at", "size"],
            "unrolled": ["nest", "at", "size"],
            "spread": ["nest", "at"],
            "turned": ["nest", "at"],
            "swapped": ["nest", "at", "other"],
            "joined": ["one", "other", "at"],
        }
        for name, arguments in listed.items():
            function = getattr(nests, name)
            self.assertEqual(list(inspect.signature(function).parameters), arguments)
            self.assertEqual(function.__module__, "addnests.nests")

    def test_program(self):
        self.assertEqual(programs.Program.__module__, "addnests.programs")
        listed = {
            "__init__": ["self", "axes", "nests"],
            "nests": ["self"],
            "shifted": ["self", "cell"],
            "looped": ["self", "count", "step"],
            "mapped": ["self", "rows"],
            "total": ["self"],
        }
        for name, arguments in listed.items():
            self.assertEqual(list(inspect.signature(vars(programs.Program)[name]).parameters), arguments)
        for name in ("__len__", "__add__", "__sub__", "__neg__", "__mul__", "__rmul__", "__eq__"):
            self.assertIn(name, vars(programs.Program))

    def test_errors(self):
        listed = [name for name in vars(errors) if not name.startswith("__")]
        self.assertEqual(sorted(listed), sorted([
            "AddError", "InvalidNumber", "InvalidCell", "InvalidNest", "InvalidProgram", "InvalidOrder", "InvalidList",
            "InvalidText", "InvalidFamily", "UnlikeAxes", "NotStraight", "Negative", "NegativeCount", "InvalidName",
            "TakenName", "UnknownName", "NothingToUndo"]))


if __name__ == "__main__":
    unittest.main()
