"""Families: programs with a letter for a size in them, decided for all sizes."""

from addnests.errors import InvalidFamily, InvalidList, InvalidNest, InvalidNumber, NegativeCount
from addnests.letters import cancelling_numbers, gaps, strides, terms_of
from addnests.lines import first_below, last_rise, line_at, numbers_at_zeros, polynomials, settled
from addnests.nests import check_size, is_axes, is_vector
from addnests.programs import Program, check_axes
from addnests.vectors import is_whole

NO_LINE = (0, 0)


def is_line_cell(value, axes):
    """Whether a value is a tuple of so many lines."""
    return isinstance(value, tuple) and len(value) == axes and all([is_vector(line, 2) for line in value])


def is_line_loop(value, axes):
    """Whether a value is a loop, with lines, for so many axes."""
    if not isinstance(value, tuple) or len(value) != 2:
        return False
    count, step = value
    if not is_vector(count, 2) or not is_line_cell(step, axes):
        return False
    return any([line != NO_LINE for line in step])


def is_line_nest(value, axes):
    """Whether a value is a nest, with lines, for so many axes."""
    if not isinstance(value, tuple) or len(value) != 3:
        return False
    loops, place, amount = value
    if not isinstance(loops, list) or not all([is_line_loop(loop, axes) for loop in loops]):
        return False
    return is_line_cell(place, axes) and is_whole(amount)


def check_family(value):
    """Raise InvalidFamily unless a value is a family."""
    if not isinstance(value, Family):
        raise InvalidFamily(value)


def check_families(one, other):
    """Raise an error unless two values are families with equally many axes."""
    check_family(one)
    check_family(other)
    check_axes(one, other)


def cell_of(lines, number):
    """The cell that a cell of lines stands for at a number."""
    return tuple([line_at(line, number) for line in lines])


def counts_of(family):
    """The lines of all counts of a family."""
    return [count for loops, place, amount in family.parts for count, step in loops]


class Family:
    """Nests with lines a * n + b in them, a program for each size n. It never changes."""

    def __init__(self, axes, nests):
        if not is_axes(axes):
            raise InvalidNumber(axes)
        if not isinstance(nests, list):
            raise InvalidList(nests)
        for nest in nests:
            if not is_line_nest(nest, axes):
                raise InvalidNest(nest)
        self.axes = axes
        self.parts = [(list(loops), place, amount) for loops, place, amount in nests]

    def nests(self):
        """The list of the nests."""
        return [(list(loops), place, amount) for loops, place, amount in self.parts]

    def __add__(self, other):
        if not isinstance(other, Family):
            return NotImplemented
        check_axes(self, other)
        return Family(self.axes, self.parts + other.parts)

    def __neg__(self):
        return Family(self.axes, [(loops, place, -amount) for loops, place, amount in self.parts])

    def __sub__(self, other):
        if not isinstance(other, Family):
            return NotImplemented
        return self + -other

    def at(self, number):
        """The program for a size."""
        check_size(number, 0, None)
        if any([line_at(count, number) < 0 for count in counts_of(self)]):
            raise NegativeCount(number)
        nests = []
        for loops, place, amount in self.parts:
            rounds = [(line_at(count, number), cell_of(step, number)) for count, step in loops]
            nests.append((rounds, cell_of(place, number), amount))
        return Program(self.axes, nests)

    def least(self):
        """The least size from which on no count is below 0; None if there is none."""
        sizes = [last_rise(count) for count in counts_of(self)]
        return None if None in sizes else max(sizes, default=0)


def check_counts(family, low):
    """Raise NegativeCount with the least number from a bound on at which a count is below 0, if there is one."""
    found = [first_below(count, low) for count in counts_of(family)]
    numbers = [number for number in found if number is not None]
    if len(numbers) > 0:
        raise NegativeCount(min(numbers))


def resting_numbers(nests, low):
    """The numbers from a bound on at which a step of nests is zero on every axis, each once."""
    found = {number: True for stride in strides(nests) for number in numbers_at_zeros(stride, low)}
    return sorted(found)


def alike_from(one, other, low):
    """The numbers from a bound on at which two families are alike, as "all" or as a list in order."""
    check_families(one, other)
    check_size(low, 0, None)
    difference = one - other
    check_counts(difference, low)
    nests = difference.nests()
    terms = terms_of(nests)
    if len(terms) == 0:
        return "all"
    # Where a step is zero its divisor is 0, so that the terms tell nothing: there the programs are compared.
    resting = resting_numbers(nests, low)
    alike = [number for number in resting if one.at(number) == other.at(number)]
    moving = [number for number in cancelling_numbers(terms, low) if number not in resting]
    return sorted(alike + moving)


def parts_from(one, other):
    """A number from which on a place tells the first cell that parts two families, the place, and the difference there.

    None if they are alike from some number on.
    """
    check_families(one, other)
    difference = one - other
    begin = difference.least()
    if begin is None:
        raise NegativeCount(None)
    nests = difference.nests()
    terms = terms_of(nests)
    if len(terms) == 0:
        return None
    place = min(list(terms))
    others = strides(nests) + [gap for gap, amount in gaps(terms)]
    start = max([begin] + [settled(cell) for cell in others])
    return (start, tuple(polynomials(place)), terms[place])
