"""[90], [91], [92]: libraries."""

import random
import time
import unittest

from addnests.errors import (
    InvalidName, InvalidNumber, InvalidProgram, NothingToUndo, TakenName, UnknownName, UnlikeAxes)
from addnests.families import Family
from addnests.library import Library
from addnests.nests import split
from addnests.programs import Program
from tests.test_equal import number, vector
from tests.tools import BIG, lists_within, misfits, not_numbers, raised

SECONDS = 20
ROW = Program(1, [([(6, (1,))], (0,), 1)])
PAIRS = Program(1, [([(3, (2,)), (2, (1,))], (0,), 1)])
POINT = Program(1, [([], (4,), -2)])


def of(**programs):
    """A library on one axis with some programs, put in this order."""
    library = Library(1)
    for name, program in programs.items():
        library.put(name, program)
    return library


def not_names():
    """Values that are no names."""
    return misfits() + [0, 1, [], ["a"], (), ("a",), ROW, Family(1, []), "A", "aB", "abcdefghi", "a1", "a b", " a", "a\n",
                        "a-b", "\u00e4", "\u0430", "a" * 99]


class Keeping(unittest.TestCase):
    def test_axes(self):
        for axes in (1, 2, 3):
            library = Library(axes=axes)
            self.assertEqual((library.axes, len(library), library.names(), library.log()), (axes, 0, [], []))
            self.assertEqual((library.together().axes, library.together().nests()), (axes, []))
            self.assertEqual(library.alike_to(Program(axes, [])), [])
        for value in not_numbers() + [0, 4, -1, BIG]:
            self.assertIs(raised(InvalidNumber, Library, value).value, value)

    def test_put_drop_and_change(self):
        library = Library(1)
        self.assertIsNone(library.put("row", ROW))
        self.assertIsNone(library.put(name="abcdefgh", program=POINT))
        self.assertIsNone(library.put("z", Program(1, [])))
        self.assertEqual(library.names(), ["abcdefgh", "row", "z"])
        self.assertEqual(library.program("row").nests(), ROW.nests())
        self.assertEqual(library.program(name="abcdefgh").nests(), POINT.nests())
        self.assertIsNone(library.change("row", PAIRS))
        self.assertEqual(library.program("row").nests(), PAIRS.nests())
        self.assertIsNone(library.change(name="z", program=ROW))
        self.assertIsNone(library.drop("abcdefgh"))
        self.assertEqual(library.names(), ["row", "z"])
        self.assertIsNone(library.drop(name="row"))
        self.assertEqual((library.names(), len(library)), (["z"], 1))
        library.put("row", POINT)
        self.assertEqual(library.program("row").nests(), POINT.nests())

    def test_len_and_in(self):
        library = of(b=ROW, a=ROW)
        self.assertEqual(len(library), 2)
        for name in ("a", "b"):
            self.assertIs(name in library, True)
        for value in not_names() + ["c", "ab", "", library]:
            self.assertIs(value in library, False)
        library.drop("b")
        self.assertIs("b" in library, False)
        self.assertEqual(len(library), 1)

    def test_together(self):
        library = of(row=ROW, point=POINT, pairs=PAIRS)
        found = library.together("point", "row", "point")
        self.assertIsInstance(found, Program)
        self.assertEqual((found.axes, found.nests()), (1, POINT.nests() + ROW.nests() + POINT.nests()))
        self.assertEqual(library.together("pairs").nests(), PAIRS.nests())
        self.assertEqual(library.together().nests(), [])

    def test_alike_to(self):
        library = of(row=ROW, point=POINT, pairs=PAIRS, aside=ROW.shifted((1,)))
        self.assertEqual(library.alike_to(program=ROW), ["pairs", "row"])
        self.assertEqual(library.alike_to(POINT), ["point"])
        self.assertEqual(library.alike_to(Program(1, [])), [])

    def test_errors_of_put(self):
        library = of(row=ROW)
        for value in not_names():
            self.assertIs(raised(InvalidName, library.put, value, None).name, value)
        self.assertEqual(raised(TakenName, library.put, "row", None).name, "row")
        for value in misfits() + [0, 1, [], (), ROW.nests(), library]:
            self.assertIs(raised(InvalidProgram, library.put, "new", value).value, value)
        for axes in (2, 3):
            self.assertEqual(raised(UnlikeAxes, library.put, "new", Program(axes, [])).axes, (1, axes))
        self.assertEqual((library.names(), library.log()), (["row"], [("put", "row")]))

    def test_errors_of_others(self):
        library = of(row=ROW)
        for value in not_names() + ["new", ""]:
            for call in (library.drop, library.program, library.together):
                self.assertIs(raised(UnknownName, call, value).name, value)
            self.assertIs(raised(UnknownName, library.change, value, None).name, value)
            self.assertIs(raised(UnknownName, library.together, "row", value, "other").name, value)
        for value in misfits() + [0, 1, [], (), ROW.nests(), library]:
            self.assertIs(raised(InvalidProgram, library.change, "row", value).value, value)
            self.assertIs(raised(InvalidProgram, library.alike_to, value).value, value)
        for axes in (2, 3):
            self.assertEqual(raised(UnlikeAxes, library.change, "row", Program(axes, [])).axes, (1, axes))
            self.assertEqual(raised(UnlikeAxes, library.alike_to, Program(axes, [])).axes, (1, axes))
        self.assertEqual((library.program("row").nests(), library.log()), (ROW.nests(), [("put", "row")]))


class Equality(unittest.TestCase):
    def test_equal_libraries(self):
        one, other = of(a=ROW, b=POINT), of(b=POINT, a=PAIRS)
        self.assertIs(one == other, True)
        self.assertIs(one != other, False)
        self.assertIs(Library(2) == Library(2), True)
        one.drop("a")
        self.assertIs(one == other, False)
        one.put("a", ROW)
        self.assertIs(one == other, True)
        one.change("a", POINT)
        self.assertIs(one == other, False)
        one.back()
        self.assertIs(one == other, True)

    def test_unequal_libraries(self):
        self.assertIs(Library(1) == Library(2), False)
        self.assertIs(of(a=ROW) == of(b=ROW), False)
        self.assertIs(of(a=ROW) == of(a=ROW, b=ROW), False)
        self.assertIs(of(a=ROW) == of(a=POINT), False)
        self.assertIs(of(a=ROW, b=POINT) == of(a=POINT, b=ROW), False)

    def test_other_objects(self):
        for value in misfits() + [0, 1, [], (), ROW, ["a"]]:
            self.assertIs(of(a=ROW) == value, False)
            self.assertIs(value == of(a=ROW), False)
            self.assertIs(Library(1) == value, False)
            self.assertIs(Library(1) != value, True)


class Undoing(unittest.TestCase):
    def test_back_through_all_steps(self):
        library = Library(1)
        states = []
        for call, values in [("put", ("a", ROW)), ("put", ("b", POINT)), ("change", ("a", POINT)), ("drop", ("b",)),
                             ("put", ("b", ROW)), ("change", ("b", PAIRS)), ("change", ("b", PAIRS)), ("drop", ("a",))]:
            states.append(({name: library.program(name).nests() for name in library.names()}, library.log()))
            getattr(library, call)(*values)
            self.assertEqual(library.log(), states[-1][1] + [(call, values[0])])
        while states:
            self.assertIsNone(library.back())
            kept, log = states.pop()
            self.assertEqual({name: library.program(name).nests() for name in library.names()}, kept)
            self.assertEqual(library.log(), log)
        for k in range(2):
            self.assertIsNotNone(raised(NothingToUndo, library.back))
            self.assertEqual((len(library), library.log()), (0, []))

    def test_steps_after_undoing(self):
        library = of(a=ROW, b=ROW)
        library.back()
        library.put("c", POINT)
        self.assertEqual((library.names(), library.log()), (["a", "c"], [("put", "a"), ("put", "c")]))
        library.back()
        library.back()
        self.assertIsNotNone(raised(NothingToUndo, library.back))

    def test_failed_calls_are_no_steps(self):
        library = of(a=ROW)
        for call, values in [(library.put, ("a", ROW)), (library.put, ("A", ROW)), (library.put, ("b", None)),
                             (library.drop, ("b",)), (library.change, ("b", ROW)), (library.change, ("a", Program(2, [])))]:
            with self.assertRaises(ValueError):
                call(*values)
        self.assertEqual(library.log(), [("put", "a")])
        library.back()
        self.assertEqual(len(library), 0)

    def test_copies(self):
        library = of(a=ROW, b=POINT)
        library.change("b", ROW)
        other = library.copy()
        self.assertIsInstance(other, Library)
        self.assertEqual((other.axes, other.names(), other.log()), (1, library.names(), library.log()))
        self.assertIs(other == library, True)
        again = other.copy()
        other.drop("a")
        library.back()
        self.assertEqual((library.names(), other.names(), again.names()), (["a", "b"], ["b"], ["a", "b"]))
        self.assertEqual(library.program("b").nests(), POINT.nests())
        self.assertEqual(again.program("b").nests(), ROW.nests())
        self.assertEqual([len(one.log()) for one in (library, other, again)], [2, 4, 3])
        for one, many in [(library, 2), (other, 4), (again, 3)]:
            for k in range(many):
                one.back()
            self.assertIsNotNone(raised(NothingToUndo, one.back))
            self.assertEqual(len(one), 0)
        empty = Library(3).copy()
        self.assertEqual((empty.axes, len(empty)), (3, 0))

    def test_lists_are_new(self):
        library = of(a=ROW, b=POINT)
        for call in (library.names, library.log, lambda: library.alike_to(ROW), library.together("a").nests):
            first, second = call(), call()
            found = lists_within(first) + lists_within(second)
            self.assertEqual(len({id(one) for one in found}), len(found))
            first.append(None)
            first[0] = None
            self.assertEqual(call(), second)
        nests = [([(2, (1,))], (0,), 1)]
        library.put("c", Program(1, nests))
        nests[0][0].append(None)
        nests.append(None)
        library.program("c").nests()[0][0].append(None)
        self.assertEqual(library.program("c").nests(), [([(2, (1,))], (0,), 1)])


class Limits(unittest.TestCase):
    def test_forty_programs(self):
        begun = time.monotonic()
        chance = random.Random(1)
        steps = [vector(chance, 2, 100) for k in range(12)]
        nests = [([(number(chance, 100), step) for step in chance.sample(steps, 6)], vector(chance, 2, 100), k + 1)
                 for k in range(15)]
        library, other = Library(2), Library(2)
        names = [first + second for first in "abcde" for second in "stuvwxyz"]
        for at, name in enumerate(names):
            pieces = [new for k, nest in enumerate(nests) for new in split(nest, (k + at) % 6, 10 ** 98 + at)]
            library.put(name, Program(2, pieces))
            other.put(name, Program(2, nests) if at % 4 else Program(2, nests[1:]))
        self.assertEqual((len(library), library.names()), (40, sorted(names)))
        self.assertEqual(library.alike_to(Program(2, nests)), sorted(names))
        self.assertEqual(other.alike_to(library.program("as")), sorted(name for at, name in enumerate(names) if at % 4))
        self.assertIs(library == other, False)
        self.assertIs(library == library.copy(), True)
        self.assertEqual(len(library.together(*names[:13])), 390)
        for k in range(40):
            library.back()
        self.assertIs(library == Library(2), True)
        self.assertLess(time.monotonic() - begun, SECONDS)


if __name__ == "__main__":
    unittest.main()
