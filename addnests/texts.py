"""Programs as texts."""

from addnests.errors import InvalidNumber, InvalidText
from addnests.nests import is_axes
from addnests.programs import Program, check_program
from addnests.tokens import is_number, split_up


def text_of_vector(vector):
    """The text of a cell or a step."""
    return "(" + ", ".join([str(number) for number in vector]) + ")"


def text_of_nest(nest):
    """The text of a nest."""
    loops, place, amount = nest
    text = f"add {amount} at {text_of_vector(place)}"
    for count, step in loops[::-1]:
        text = f"for {count} by {text_of_vector(step)} " + "{ " + text + " }"
    return text


def text_of(program):
    """The text of a program."""
    check_program(program)
    return "; ".join([text_of_nest(nest) for nest in program.nests()])


class Reader:
    """Reads the tokens of a text one after another, and raises InvalidText where they do not fit."""

    def __init__(self, text, axes):
        self.text = text
        self.axes = axes
        self.tokens = split_up(text)
        self.position = 0

    def check(self, fits):
        """Raise InvalidText unless the text fits."""
        if not fits:
            raise InvalidText(self.text)

    def is_done(self):
        """Whether no token is left."""
        return self.position == len(self.tokens)

    def is_next(self, token):
        """Whether the next token is the given one."""
        return not self.is_done() and self.tokens[self.position] == token

    def take(self):
        """The next token, which is read."""
        self.check(not self.is_done())
        token = self.tokens[self.position]
        self.position = self.position + 1
        return token

    def take_given(self, token):
        """Read a token that has to be there."""
        self.check(self.take() == token)

    def take_number(self):
        """The whole number that is the next token."""
        token = self.take()
        self.check(is_number(token))
        return int(token)

    def take_vector(self):
        """The cell or step that the next tokens are."""
        numbers = []
        self.take_given("(")
        for axis in range(self.axes):
            if axis > 0:
                self.take_given(",")
            numbers.append(self.take_number())
        self.take_given(")")
        return tuple(numbers)

    def take_loop(self):
        """The loop that the next tokens begin."""
        self.take_given("for")
        count = self.take_number()
        self.check(count >= 0)
        self.take_given("by")
        step = self.take_vector()
        self.take_given("{")
        return (count, step)

    def take_addition(self, loops):
        """The nest of some loops around the addition that the next tokens are."""
        self.take_given("add")
        amount = self.take_number()
        self.take_given("at")
        return (loops, self.take_vector(), amount)


def nests_of(reader):
    """The nests of the statements of a text, to its end."""
    nests = []
    loops = []
    # A text and the inside of a loop may hold no statement, but behind a `;` there is one.
    may_end = True
    while True:
        if reader.is_next("for"):
            loops.append(reader.take_loop())
            may_end = True
            continue
        if reader.is_next("add"):
            nests.append(reader.take_addition(list(loops)))
        else:
            reader.check(may_end and not reader.is_next(";"))
        while len(loops) > 0 and reader.is_next("}"):
            reader.take()
            loops.pop()
        if len(loops) == 0 and reader.is_done():
            return nests
        reader.take_given(";")
        may_end = False


def read_program(text, axes):
    """The program of a text."""
    if not is_axes(axes):
        raise InvalidNumber(axes)
    if not isinstance(text, str):
        raise InvalidText(text)
    return Program(axes, nests_of(Reader(text, axes)))
