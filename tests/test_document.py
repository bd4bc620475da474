"""The examples of the document, word for word, and the names of its interface."""

import inspect
import unittest

from addnests import cells, compare, errors, families, library, nests, programs, shares, texts, tidy


class Examples(unittest.TestCase):
    def test_nests(self):
        from addnests.nests import blocked, is_nest, split, spread, swapped, turned, unrolled
        nest = ([(7, (1,)), (2, (10,))], (5,), 3)
        self.assertEqual(
            [is_nest(nest, 1), split(nest, 0, 3), blocked(nest, 0, 3), unrolled(nest, 0, 2), spread(nest, 1), turned(nest, 0), swapped(nest, 0, 1)],
            [True, [([(3, (1,)), (2, (10,))], (5,), 3), ([(4, (1,)), (2, (10,))], (8,), 3)], [([(2, (3,)), (3, (1,)), (2, (10,))], (5,), 3), ([(1, (1,)), (2, (10,))], (11,), 3)], [([(4, (2,)), (2, (10,))], (5,), 3), ([(3, (2,)), (2, (10,))], (6,), 3)], [([(7, (1,))], (5,), 3), ([(7, (1,))], (15,), 3)], ([(7, (-1,)), (2, (10,))], (11,), 3), ([(2, (10,)), (7, (1,))], (5,), 3)])

    def test_programs(self):
        from addnests.programs import Program
        row = Program(1, [([(10 ** 20, (1,))], (0,), 1)])
        ends = Program(1, [([], (0,), 1), ([], (10 ** 20,), -1)])
        step = Program(1, [([], (0,), 1), ([], (1,), -1)])
        pairs = Program(1, [([(5 * 10 ** 19, (2,)), (2, (1,))], (0,), 1)])
        self.assertEqual(
            [row == pairs, row * step == ends, row.total(), (row * row).total(), row == row.shifted((1,)), row.looped(3, (10 ** 20,)) == Program(1, [([(3 * 10 ** 20, (1,))], (0,), 1)])],
            [True, True, 100000000000000000000, 10000000000000000000000000000000000000000, False, True])

    def test_compare(self):
        from addnests.compare import alike, box, filled, first_apart, first_cell, first_not_once, last_cell
        from addnests.programs import Program
        tiles = Program(2, [([(10, (8, 0)), (12, (0, 5)), (8, (1, 0)), (5, (0, 1))], (0, 0), 1)])
        wrong = Program(2, [([(10, (8, 0)), (12, (0, 5)), (8, (1, 0)), (6, (0, 1))], (0, 0), 1)])
        self.assertEqual(
            [tiles == filled((0, 0), [80, 60]), first_not_once(wrong, (0, 0), [80, 60]), first_apart(wrong, tiles, order=(-2, 1)), box(wrong), first_cell(wrong - tiles), last_cell(tiles, order=(2, -1)), alike(tiles, tiles * 8, modulus=7)],
            [True, ((0, 5), 1), ((0, 60), 1), [(0, 79), (0, 60)], ((0, 5), 1), ((0, 59), 1), True])

    def test_shares(self):
        from addnests.compare import first_apart
        from addnests.programs import Program
        from addnests.shares import by_blocks, by_turns, first_wrong
        nest = ([(10, (4,)), (3, (1,))], (0,), 1)
        hands = [Program(1, [share]) for share in by_turns(nest, 0, 3)]
        self.assertEqual(
            [by_blocks(nest, 0, 3), by_turns(nest, 0, 4)[3], first_wrong(hands, Program(1, [nest])), first_wrong(hands[1:], Program(1, [nest]), order=(-1,))],
            [[([(4, (4,)), (3, (1,))], (0,), 1), ([(3, (4,)), (3, (1,))], (16,), 1), ([(3, (4,)), (3, (1,))], (28,), 1)], ([(2, (16,)), (3, (1,))], (12,), 1), None, ((38,), -1)])
        self.assertEqual(first_apart(hands[0] + hands[1] + hands[2], Program(1, [nest])), None)

    def test_cells(self):
        from addnests.cells import amount_at, amount_in, cell_reaching, common, cuts, floor_sum
        from addnests.programs import Program
        web = Program(1, [([(10 ** 18, (6,)), (10 ** 18, (10,))], (0,), 1)])
        hill = Program(1, [([(100, (1,)), (100, (1,))], (0,), 1)])
        self.assertEqual(
            [floor_sum(10, 3, 1, 4), amount_at(web, (6 * 10 ** 10,)), amount_in(web, (0,), (29,)), cell_reaching(hill, 4951), cuts(hill, 2), common(hill, Program(1, [([(3, (4,))], (0,), 1)]))],
            [33, 2000000001, 11, (99,), [(99,)], 15])

    def test_families(self):
        from addnests.families import Family, alike_from, parts_from
        n, one, none = (1, 0), (0, 1), (0, 0)
        square = Family(1, [([(n, (n,)), (n, (one,))], (none,), 1)])
        gaps = Family(1, [([(n, ((1, 1),)), (n, (one,))], (none,), 1)])
        halves = Family(1, [([(n, ((0, 2),)), ((0, 2), (one,))], (none,), 1)])
        self.assertEqual(
            [square.at(3).total(), alike_from(square, gaps, 0), parts_from(square, gaps)[1:], alike_from(halves, Family(1, [([((2, 0), (one,))], (none,), 1)]), 0), gaps.least()],
            [9, [0, 1], (((0, 1, 0),), 1), 'all', 0])

    def test_texts(self):
        from addnests.programs import Program
        from addnests.texts import read_program, text_of
        program = read_program("for 7 by (1) { add 3 at (5); for 2 by (10) {add -1 at(0)} }", 1)
        self.assertEqual(
            [text_of(program), program.nests(), text_of(Program(2, [])), program.total()],
            ['for 7 by (1) { add 3 at (5) }; for 7 by (1) { for 2 by (10) { add -1 at (0) } }', [([(7, (1,))], (5,), 3), ([(7, (1,)), (2, (10,))], (0,), -1)], '', 7])


class Interface(unittest.TestCase):
    def test_functions(self):
        listed = {
            "is_cell": ["value", "axes"],
            "is_nest": ["value", "axes"],
            "split": ["nest", "at", "rounds"],
            "blocked": ["nest", "at", "size"],
            "unrolled": ["nest", "at", "size"],
            "spread": ["nest", "at"],
            "turned": ["nest", "at"],
            "swapped": ["nest", "at", "other"],
            "joined": ["one", "other", "at"],
        }
        for name, arguments in listed.items():
            function = getattr(nests, name)
            self.assertEqual(list(inspect.signature(function).parameters), arguments)
            self.assertEqual(function.__module__, "addnests.nests")

    def test_functions_with_names(self):
        order, modulus = ("order", None), ("modulus", 0)
        listed = {
            compare: {
                "comes_first": ["one", "other", "order"],
                "first_apart": ["one", "other", order, modulus],
                "alike": ["one", "other", modulus],
                "first_cell": ["program", order],
                "last_cell": ["program", order],
                "box": ["program"],
                "filled": ["corner", "sizes"],
                "first_not_once": ["program", "corner", "sizes", order],
            },
            tidy: {"tidied": ["program"]},
            shares: {
                "by_blocks": ["nest", "at", "workers"],
                "by_turns": ["nest", "at", "workers"],
                "first_wrong": ["shares", "whole", order],
            },
            cells: {
                "amount_at": ["program", "cell"],
                "floor_sum": ["count", "times", "plus", "over"],
                "amount_in": ["program", "low", "high"],
                "cell_reaching": ["program", "wanted"],
                "cuts": ["program", "hands"],
                "common": ["one", "other"],
            },
            families: {"alike_from": ["one", "other", "low"], "parts_from": ["one", "other"]},
            texts: {"text_of": ["program"], "read_program": ["text", "axes"]},
        }
        for module, functions in listed.items():
            for name, arguments in functions.items():
                function = getattr(module, name)
                self.assertEqual(function.__module__, module.__name__)
                found = []
                for parameter in inspect.signature(function).parameters.values():
                    if parameter.kind == parameter.KEYWORD_ONLY:
                        found.append((parameter.name, parameter.default))
                    else:
                        self.assertEqual(parameter.kind, parameter.POSITIONAL_OR_KEYWORD)
                        self.assertIs(parameter.default, parameter.empty)
                        found.append(parameter.name)
                self.assertEqual(found, arguments)

    def test_program(self):
        self.assertEqual(programs.Program.__module__, "addnests.programs")
        listed = {
            "__init__": ["self", "axes", "nests"],
            "nests": ["self"],
            "shifted": ["self", "cell"],
            "looped": ["self", "count", "step"],
            "mapped": ["self", "rows"],
            "total": ["self"],
        }
        for name, arguments in listed.items():
            self.assertEqual(list(inspect.signature(vars(programs.Program)[name]).parameters), arguments)
        for name in ("__len__", "__add__", "__sub__", "__neg__", "__mul__", "__rmul__", "__eq__"):
            self.assertIn(name, vars(programs.Program))

    def test_family(self):
        self.assertEqual(families.Family.__module__, "addnests.families")
        listed = {"__init__": ["self", "axes", "nests"], "nests": ["self"], "at": ["self", "number"], "least": ["self"]}
        for name, arguments in listed.items():
            self.assertEqual(list(inspect.signature(vars(families.Family)[name]).parameters), arguments)
        for name in ("__add__", "__sub__", "__neg__"):
            self.assertIn(name, vars(families.Family))

    def test_library(self):
        self.assertEqual(library.Library.__module__, "addnests.library")
        listed = {
            "__init__": ["self", "axes"],
            "put": ["self", "name", "program"],
            "drop": ["self", "name"],
            "change": ["self", "name", "program"],
            "program": ["self", "name"],
            "together": ["self", "names"],
            "alike_to": ["self", "program"],
            "names": ["self"],
            "back": ["self"],
            "log": ["self"],
            "copy": ["self"],
        }
        for name, arguments in listed.items():
            self.assertEqual(list(inspect.signature(vars(library.Library)[name]).parameters), arguments)
        for name in ("__len__", "__contains__", "__eq__"):
            self.assertIn(name, vars(library.Library))

    def test_errors(self):
        listed = [name for name in vars(errors) if not name.startswith("__")]
        self.assertEqual(sorted(listed), sorted([
            "AddError", "InvalidNumber", "InvalidCell", "InvalidNest", "InvalidProgram", "InvalidOrder", "InvalidList",
            "InvalidText", "InvalidFamily", "UnlikeAxes", "NotStraight", "Negative", "NegativeCount", "InvalidName",
            "TakenName", "UnknownName", "NothingToUndo"]))


if __name__ == "__main__":
    unittest.main()
