"""[80], [81]: programs as texts."""

import random
import time
import unittest

from addnests.errors import InvalidNumber, InvalidProgram, InvalidText
from addnests.programs import Program
from addnests.texts import read_program, text_of
from tests.test_equal import number, small_nest, vector
from tests.tools import BIG, lists_within, misfits, not_numbers, raised

SECONDS = 20
SIGNS = "{}(),;"


def tokens_of(text):
    """The tokens of a text that has blanks only where `text_of` sets them."""
    for sign in SIGNS:
        text = text.replace(sign, " " + sign + " ")
    return text.split()


def spaced(chance, tokens):
    """A text of tokens with blanks and line ends at random, and only where they must be if `chance` is None."""
    text = ""
    for before, token in zip([";"] + tokens, tokens):
        gap = "" if before in SIGNS or token in SIGNS else " "
        if chance is not None:
            gap = gap.join(chance.choice(["", "", " ", "\n", "  \n \n"]) for k in range(2))
            if gap == "" and before not in SIGNS and token not in SIGNS:
                gap = "\n"
        text += gap + token
    return text


class TextOf(unittest.TestCase):
    def test_texts(self):
        for program, text in [
            (Program(1, []), ""),
            (Program(3, []), ""),
            (Program(1, [([], (0,), 0)]), "add 0 at (0)"),
            (Program(2, [([], (1, -2), -7)]), "add -7 at (1, -2)"),
            (Program(1, [([(0, (-5,))], (3,), 1)]), "for 0 by (-5) { add 1 at (3) }"),
            (Program(3, [([(4, (1, 0, -1)), (BIG, (0, 0, 0))], (0, 5, 0), 2), ([], (0, 0, 0), 1)]),
             "for 4 by (1, 0, -1) { for " + str(BIG) + " by (0, 0, 0) { add 2 at (0, 5, 0) } }; add 1 at (0, 0, 0)"),
        ]:
            self.assertEqual(text_of(program=program), text)
            self.assertEqual(read_program(text, program.axes).nests(), program.nests())

    def test_errors(self):
        for value in misfits() + [0, 1, [], (), ([], (0,), 1), "add 1 at (0)"]:
            self.assertIs(raised(InvalidProgram, text_of, value).value, value)


class ReadProgram(unittest.TestCase):
    def test_there_and_back(self):
        chance = random.Random(1)
        for trial in range(500):
            axes = chance.randint(1, 3)
            program = Program(axes, [small_nest(chance, axes) for k in range(chance.randint(0, 4))])
            text = text_of(program)
            tokens = tokens_of(text)
            for written in (text, spaced(None, tokens), spaced(chance, tokens), "\n " + text + " \n"):
                found = read_program(text=written, axes=axes)
                self.assertIsInstance(found, Program)
                self.assertEqual((found.axes, found.nests()), (axes, program.nests()))

    def test_loops_around_several_statements(self):
        text = "add 1 at (0); for 2 by (3) { add 2 at (1); for 4 by (5) { add 3 at (2); add 4 at (3) }; add 5 at (4) }"
        outer, inner = (2, (3,)), (4, (5,))
        nests = [([], (0,), 1), ([outer], (1,), 2), ([outer, inner], (2,), 3), ([outer, inner], (3,), 4), ([outer], (4,), 5)]
        self.assertEqual(read_program(text, 1).nests(), nests)
        self.assertEqual(read_program(text + ";" + text, 1).nests(), nests + nests)
        lists = lists_within(read_program(text, 1).nests())
        self.assertEqual(len({id(one) for one in lists}), len(lists))

    def test_nothing_inside(self):
        for text in ["", " ", "\n\n ", "for 3 by (1) {}", "for 3 by (1) { \n }; for 0 by (-2){for 1 by(0){}}",
                     "for 3 by (1) { for 3 by (1) {}; for 3 by (1) {} }", "for 1 by(1){for 1 by(1){for 1 by(1){}}}"]:
            self.assertEqual(read_program(text, 1).nests(), [])
        text = "for 3 by (1) {}; add 1 at (1); for 3 by (1) { for 2 by (2) {}; add 2 at (2) }"
        self.assertEqual(read_program(text, 1).nests(), [([], (1,), 1), ([(3, (1,))], (2,), 2)])

    def test_blanks(self):
        for text in ["add 3 at(-5)", "add 3\nat(\n-5 )", "\nadd\n\n3   at  ( -5)\n"]:
            self.assertEqual(read_program(text, 1).nests(), [([], (-5,), 3)])
        for text in ["for 7 by(1){add 3 at(5);for 2 by(10){add -1 at(0)}}", "for\n7\nby (1){add 3 at (5)\n;for 2 by(10)\n{ add -1\nat(0)}}"]:
            self.assertEqual(read_program(text, 1).nests(), [([(7, (1,))], (5,), 3), ([(7, (1,)), (2, (10,))], (0,), -1)])

    def test_numbers(self):
        most = "9" * 400
        for digits in ["0", "1", "10", "-1", "-90", most, "-" + most]:
            nests = [([], (int(digits), 0), int(digits))]
            self.assertEqual(read_program(f"add {digits} at ({digits},0)", 2).nests(), nests)
        self.assertEqual(read_program(f"for {most} by (-{most}) {{add 1 at (0)}}", 1).nests(), [
            ([(int(most), (-int(most),))], (0,), 1)])
        wrongs = ["-0", "00", "01", "-01", "+1", "- 1", "--1", "-", "1-", "1.0", "1e5", "1_0", "0x1", "1 0", "a", "",
                  "\u0661", "\u00b2", most + "9", "-" + most + "9", "0" * 401, "(1)", "1,"]
        for digits in wrongs:
            for text in (f"add {digits} at (0)", f"add 1 at ({digits})", f"for 1 by ({digits}) {{ }}", f"for {digits} by (0) {{ }}"):
                self.assertEqual(raised(InvalidText, read_program, text, 1).value, text, text)
        for count in ("-1", "-" + most):
            text = f"for {count} by (1) {{ add 1 at (0) }}"
            self.assertEqual(raised(InvalidText, read_program, text, 1).value, text)

    def test_texts_that_are_almost_right(self):
        for text in [
            ";", "; ", "add 1 at (0);", ";add 1 at (0)", "add 1 at (0);;add 1 at (0)", "add 1 at (0) add 1 at (0)",
            "add 1 at (0) }", "{ add 1 at (0) }", "{}", "}", "{", "for 1 by (1)", "for 1 by (1) {", "for 1 by (1) { } }",
            "for 1 by (1) add 1 at (0)", "for 1 by (1) {;}", "for 1 by (1) { add 1 at (0); }", "for 1 by (1) {;add 1 at (0)}",
            "for 1 by (1) { add 1 at (0) } add 1 at (0)", "for 1 by (1) {};", "for 1 by (1) { for 1 by (1) {} ;}",
            "for 1 by (1) { for 1 by (1) { }", "for 1 by (1) {}{}", "for 1 by (1) ({})", "for by (1) {}", "for 1 (1) {}",
            "for 1 by 1 {}", "for (1) by (1) {}", "1 by (1) {}", "by (1) {}", "add at (0)", "add 1 (0)", "add 1 at 0",
            "add 1 at", "add 1", "add", "for", "1", "(0)", "at (0)", "add 1 at ()", "add 1 at (0", "add 1 at 0)",
            "add 1 at (0,)", "add 1 at (,0)", "add 1 at (0, 0)", "add 1 at (0 0)", "add 1 at ((0))", "add 1 at {0}",
            "add1 at (0)", "add 1at (0)", "add -1at (0)", "add-1 at (0)", "addat (0)", "for1 by (1) {}", "for 1by (1) {}",
            "Add 1 at (0)", "ADD 1 AT (0)", "add 1 At (0)", "add 1 at (0).", "add 1\tat (0)", "add 1 at (0)\r\n",
            "add 1 at (0)\f", "add 1\u00a0at (0)", "add 1 at (0) # one", "add 1 at [0]", "a dd 1 at (0)", "add 1 a t (0)",
            "sub 1 at (0)", "add 1 at (at)", "add add at (0)", "for for by (1) {}", "add 1, at (0)", "add 1 at (0),", ",",
        ]:
            self.assertEqual(raised(InvalidText, read_program, text, 1).value, text, text)
        for text, axes in [("add 1 at (0)", 2), ("add 1 at (0, 0)", 1), ("add 1 at (0, 0)", 3), ("add 1 at (0, 0, 0, 0)", 3),
                           ("add 1 at (0,, 0)", 2), ("for 1 by (1) { add 1 at (0, 0) }", 2), ("for 1 by (1, 1) {}", 1)]:
            self.assertEqual(raised(InvalidText, read_program, text, axes).value, text)

    def test_one_token_more_or_less(self):
        tokens = tokens_of("for 7 by (1) { add 3 at (5); for 2 by (10) { add -1 at (0) } }")
        for at in range(len(tokens)):
            text = " ".join(tokens[:at] + tokens[at + 1:])
            self.assertEqual(raised(InvalidText, read_program, text, 1).value, text)
            for token in ["for", "by", "add", "at", "0", "-1"] + list(SIGNS):
                text = " ".join(tokens[:at] + [token] + tokens[at:])
                self.assertEqual(raised(InvalidText, read_program, text, 1).value, text)

    def test_errors_in_order(self):
        for value in not_numbers() + [0, 4, -1, BIG]:
            self.assertIs(raised(InvalidNumber, read_program, None, value).value, value)
        for value in misfits() + [0, 1, [], ["add 1 at (0)"], (), Program(1, [])]:
            if value != "":
                self.assertIs(raised(InvalidText, read_program, value, 1).value, value)

    def test_at_the_limits(self):
        begun = time.monotonic()
        chance = random.Random(2)
        loops = [(number(chance, 400), vector(chance, 3, 400)) for k in range(6)]
        program = Program(3, [(loops, vector(chance, 3, 400), -number(chance, 400))])
        self.assertEqual(read_program(text_of(program), 3).nests(), program.nests())
        program = Program(1, [([(2, (1,))] * 6, (k,), k) for k in range(30)])
        self.assertEqual(read_program(text_of(program), 1).nests(), program.nests())
        deep = "for 1 by(1){" * 1538
        self.assertEqual(read_program(deep + "}" * 1538, 1).nests(), [])
        nests = read_program(deep + "add 1 at(0)" + "}" * 1538, 1).nests()
        self.assertEqual(nests, [([(1, (1,))] * 1538, (0,), 1)])
        self.assertEqual(read_program(text_of(Program(1, nests)), 1).nests(), nests)
        self.assertEqual(len(read_program(";".join(["add 1 at(0)"] * 1600), 1)), 1600)
        self.assertEqual(len(read_program(" \n" * 10000, 1)), 0)
        for text in (deep, "}" * 20000, ";" * 20000, "(" * 20000, "1" * 20000, "for " * 5000, "add 1 at (0); " * 1500):
            self.assertEqual(raised(InvalidText, read_program, text, 1).value, text)
        self.assertLess(time.monotonic() - begun, SECONDS)


if __name__ == "__main__":
    unittest.main()
