"""What cells get: one cell, the cells of a box, the cells up to one, and the cells that two programs share."""

from addnests.compare import unit
from addnests.errors import InvalidNumber, InvalidProgram, Negative, NotStraight
from addnests.floors import floors
from addnests.nests import check_size
from addnests.programs import check_axes, check_cell, check_program
from addnests.straight import amount_between, ends_of, is_straight, lanes_of, number_reaching
from addnests.tidy import is_idle, without_resting
from addnests.vectors import is_whole
from addnests.ways import ways


def check_whole(value):
    """Raise InvalidNumber unless a value is a whole number."""
    if not is_whole(value):
        raise InvalidNumber(value)


def check_straight(program):
    """Raise NotStraight unless all nests of a program are straight."""
    for at, nest in enumerate(program.nests()):
        if not is_straight(nest):
            raise NotStraight(at)


def check_row(program):
    """Raise an error unless a value is a program with one axis, straight nests and no amount below 0."""
    check_program(program)
    if program.axes != 1:
        raise InvalidProgram(program)
    check_straight(program)
    for at, nest in enumerate(program.nests()):
        if nest[2] < 0:
            raise Negative(at)


def difference(one, other):
    """The step from another cell to the one."""
    return tuple([a - b for a, b in zip(one, other)])


def amount_at(program, cell):
    """The sum of all amounts that a program adds to a cell."""
    check_program(program)
    check_cell(cell, program.axes)
    total = 0
    for nest in program.nests():
        if not is_idle(nest):
            loops, place, amount = without_resting(nest)
            total = total + amount * ways(loops, difference(cell, place))
    return total


def floor_sum(count, times, plus, over):
    """The sum of (times * i + plus) // over for i from 0 to count - 1."""
    check_size(count, 0, None)
    check_whole(times)
    check_whole(plus)
    check_size(over, 1, None)
    return floors(count, times, plus, over)


def amount_in(program, low, high):
    """The sum of all amounts that a program adds to the cells of a box."""
    check_program(program)
    check_cell(low, program.axes)
    check_cell(high, program.axes)
    check_straight(program)
    if any([first > last for first, last in zip(low, high)]):
        return 0
    return sum([amount_between(lane, low, high) for lane in lanes_of(program.nests())])


def cells_reaching(program, amounts):
    """For each of several amounts in order the least cell up to which a program adds as much."""
    lanes = lanes_of(program.nests())
    low, high = ends_of(lanes)
    cells = []
    for wanted in amounts:
        number = number_reaching(lanes, wanted, low - 1, high)
        cells.append((number,))
        low = number
    return cells


def cell_reaching(program, wanted):
    """The least cell such that a program adds at least a wanted amount to it and all lesser ones."""
    check_row(program)
    check_size(wanted, 1, program.total())
    return cells_reaching(program, [wanted])[0]


def cuts(program, hands):
    """The cells at which the amounts that a program adds are cut into so many even shares."""
    check_row(program)
    check_size(hands, 1, None)
    total = program.total()
    if total == 0:
        raise InvalidNumber(hands)
    return cells_reaching(program, [-(-total * k // hands) for k in range(1, hands)])


def common(one, other):
    """The sum, over all cells, of the product of the sums that two programs add there."""
    check_program(one)
    check_program(other)
    check_axes(one, other)
    turned_over = [[-number for number in unit(axis, one.axes)] for axis in range(one.axes)]
    # Both programs meet at a cell where the one, moved back by a cell of the other, adds to the cell of zeros.
    return amount_at(one * other.mapped(turned_over), tuple([0] * one.axes))
