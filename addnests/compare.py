"""Where programs part, where they begin and end, and whether they fill a box."""

from addnests.errors import InvalidCell, InvalidList, InvalidNumber, InvalidOrder, UnlikeAxes
from addnests.firsts import early_term, first_term
from addnests.nests import MOST_AXES, is_cell, is_vector
from addnests.programs import Program, check_axes, check_program, image, is_row
from addnests.quotients import numerator, unpacked, weights_for
from addnests.spans import spans
from addnests.vectors import is_whole


def is_order(value, axes):
    """Whether a value names each of so many axes once, upwards or downwards, or is None."""
    if value is None:
        return True
    return is_vector(value, axes) and sorted([abs(axis) for axis in value]) == list(range(1, axes + 1))


def check_order(order, axes):
    """Raise InvalidOrder unless a value is an order of the cells with so many axes."""
    if not is_order(order, axes):
        raise InvalidOrder(order)


def check_any_cell(value):
    """Raise InvalidCell unless a value is a cell of 1 to 3 axes."""
    if not any([is_cell(value, axes) for axes in range(1, MOST_AXES + 1)]):
        raise InvalidCell(value)


def check_sizes(sizes, axes):
    """Raise InvalidList unless a value is a list of so many sizes."""
    if not is_row(sizes, axes) or any([size < 0 for size in sizes]):
        raise InvalidList(sizes)


def unit(axis, axes):
    """The step by one on an axis, counted from 0."""
    return tuple([int(other == axis) for other in range(axes)])


def rows_of(order, axes):
    """The rows that map the cells so that an order of them becomes Python's one."""
    if order is None:
        order = tuple(range(1, axes + 1))
    return [[number if axis > 0 else -number for number in unit(abs(axis) - 1, axes)] for axis in order]


def transposed(rows):
    """The rows that map the cells back from an order."""
    return [list(column) for column in zip(*rows)]


def opposite(order, axes):
    """The order that goes the other way."""
    if order is None:
        order = tuple(range(1, axes + 1))
    return tuple([-axis for axis in order])


def comes_first(one, other, order):
    """Whether a cell comes before another one in an order."""
    check_any_cell(one)
    if not is_cell(other, len(one)):
        raise InvalidCell(other)
    check_order(order, len(one))
    rows = rows_of(order, len(one))
    return image(one, rows) < image(other, rows)


def restored(term, nests, rows):
    """The cell and the sum of a packed term of nests that were mapped by rows; None for None."""
    if term is None:
        return None
    place, amount = term
    return (image(unpacked(place, weights_for(nests, len(rows))), transposed(rows)), amount)


def first_sum(program, order, modulus):
    """The first cell in an order at which the sum is not 0 modulo a number, if this is not 0, and the sum; or None."""
    rows = rows_of(order, program.axes)
    nests = program.mapped(rows).parts
    return restored(first_term(numerator(nests, program.axes), modulus), nests, rows)


def early_sum(program, order):
    """The first cell in an order at which the sum is not 0, and the sum, but None also if it is not found soon."""
    rows = rows_of(order, program.axes)
    nests = program.mapped(rows).parts
    return restored(early_term(numerator(nests, program.axes), 0), nests, rows)


def first_apart(one, other, *, order=None, modulus=0):
    """The first cell in an order at which two programs add unlike sums, and the difference; None if they are equal."""
    check_program(one)
    check_program(other)
    check_axes(one, other)
    check_order(order, one.axes)
    if not is_whole(modulus) or modulus < 0:
        raise InvalidNumber(modulus)
    return first_sum(one - other, order, modulus)


def alike(one, other, *, modulus=0):
    """Whether two programs add the same sums to all cells, modulo a number if it is not 0."""
    return first_apart(one, other, modulus=modulus) is None


def first_cell(program, *, order=None):
    """The first cell in an order at which the sum is not 0, and the sum; None if there is none."""
    check_program(program)
    check_order(order, program.axes)
    return first_sum(program, order, 0)


def last_cell(program, *, order=None):
    """The last cell in an order at which the sum is not 0, and the sum; None if there is none."""
    check_program(program)
    check_order(order, program.axes)
    return first_sum(program, opposite(order, program.axes), 0)


def early_span(program, axis):
    """The least and the greatest number on an axis of a cell whose sum is not 0; None if they are not found soon."""
    order = tuple([axis] + [other for other in range(1, program.axes + 1) if other != axis])
    least = early_sum(program, order)
    if least is None:
        return None
    greatest = early_sum(program, opposite(order, program.axes))
    if greatest is None:
        return None
    return (least[0][axis - 1], greatest[0][axis - 1])


def box(program):
    """The least and the greatest number on each axis of a cell whose sum is not 0; None if there is none."""
    check_program(program)
    found = []
    for axis in range(1, program.axes + 1):
        early = early_span(program, axis)
        if early is None:
            return spans(program.parts, program.axes)
        found.append(early)
    return found


def filled(corner, sizes):
    """A program that adds 1 once to each cell of a box."""
    check_any_cell(corner)
    axes = len(corner)
    check_sizes(sizes, axes)
    return Program(axes, [([(size, unit(axis, axes)) for axis, size in enumerate(sizes)], corner, 1)])


def first_not_once(program, corner, sizes, *, order=None):
    """The first cell in an order whose sum is not 1 in a box or not 0 outside, and the sum less that; None if none."""
    check_program(program)
    full = filled(corner, sizes)
    if program.axes != full.axes:
        raise UnlikeAxes((program.axes, full.axes))
    check_order(order, program.axes)
    return first_sum(program - full, order, 0)
