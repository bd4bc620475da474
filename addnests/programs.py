"""Programs: lists of nests on arrays of so many axes."""

from addnests.errors import InvalidCell, InvalidList, InvalidNest, InvalidNumber, InvalidProgram, UnlikeAxes
from addnests.nests import is_axes, is_cell, is_nest
from addnests.quotients import numerator
from addnests.sums import is_zero
from addnests.vectors import is_whole, plus, product_sum

MOST_ROWS = 3


def check_program(value):
    """Raise InvalidProgram unless a value is a program."""
    if not isinstance(value, Program):
        raise InvalidProgram(value)


def check_axes(one, other):
    """Raise UnlikeAxes unless two programs or families have equally many axes."""
    if one.axes != other.axes:
        raise UnlikeAxes((one.axes, other.axes))


def check_cell(cell, axes):
    """Raise InvalidCell unless a value is a cell, or a step, for so many axes."""
    if not is_cell(cell, axes):
        raise InvalidCell(cell)


def is_row(value, axes):
    """Whether a value is a list of so many whole numbers."""
    return isinstance(value, list) and len(value) == axes and all([is_whole(number) for number in value])


def is_matrix(value, axes):
    """Whether a value is a list of 1 to 3 rows."""
    return isinstance(value, list) and 1 <= len(value) <= MOST_ROWS and all([is_row(row, axes) for row in value])


def image(vector, rows):
    """What becomes of a cell or a step under the rows of a mapping."""
    return tuple([product_sum(row, vector) for row in rows])


def with_amounts(program, number):
    """The program with all amounts multiplied."""
    return Program(program.axes, [(loops, place, amount * number) for loops, place, amount in program.parts])


def convolved(one, other):
    """The program that does, for each addition of the one, the other one there, so many times."""
    check_axes(one, other)
    nests = []
    for outer, start, many in one.parts:
        for inner, place, amount in other.parts:
            nests.append((outer + inner, plus(start, place), many * amount))
    return Program(one.axes, nests)


class Program:
    """Nests that are done one after another on arrays of so many axes. It never changes."""

    def __init__(self, axes, nests):
        if not is_axes(axes):
            raise InvalidNumber(axes)
        if not isinstance(nests, list):
            raise InvalidList(nests)
        for nest in nests:
            if not is_nest(nest, axes):
                raise InvalidNest(nest)
        self.axes = axes
        self.parts = [(list(loops), place, amount) for loops, place, amount in nests]

    def nests(self):
        """The list of the nests."""
        return [(list(loops), place, amount) for loops, place, amount in self.parts]

    def __len__(self):
        return len(self.parts)

    def __add__(self, other):
        if not isinstance(other, Program):
            return NotImplemented
        check_axes(self, other)
        return Program(self.axes, self.parts + other.parts)

    def __neg__(self):
        return with_amounts(self, -1)

    def __sub__(self, other):
        if not isinstance(other, Program):
            return NotImplemented
        return self + -other

    def __mul__(self, other):
        if isinstance(other, Program):
            return convolved(self, other)
        if is_whole(other):
            return with_amounts(self, other)
        return NotImplemented

    def __rmul__(self, other):
        if is_whole(other):
            return with_amounts(self, other)
        return NotImplemented

    def __eq__(self, other):
        if not isinstance(other, Program) or self.axes != other.axes:
            return False
        return is_zero(numerator((self - other).parts, self.axes))

    def shifted(self, cell):
        """The program with all cells moved by a cell."""
        check_cell(cell, self.axes)
        return Program(self.axes, [(loops, plus(place, cell), amount) for loops, place, amount in self.parts])

    def looped(self, count, step):
        """The program done so many times, each time moved by one step more."""
        if not is_whole(count) or count < 0:
            raise InvalidNumber(count)
        check_cell(step, self.axes)
        return Program(self.axes, [([(count, step)] + loops, place, amount) for loops, place, amount in self.parts])

    def mapped(self, rows):
        """The program with each amount added to the cell of the sums of the products of a row and the old cell."""
        if not is_matrix(rows, self.axes):
            raise InvalidList(rows)
        nests = []
        for loops, place, amount in self.parts:
            changed = [(count, image(step, rows)) for count, step in loops]
            nests.append((changed, image(place, rows), amount))
        return Program(len(rows), nests)

    def total(self):
        """The sum of all amounts that are added."""
        result = 0
        for loops, place, amount in self.parts:
            added = amount
            for count, step in loops:
                added = added * count
            result = result + added
        return result
