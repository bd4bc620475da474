"""Cells, nests, and nests written otherwise that add the same."""

from addnests.errors import InvalidNest, InvalidNumber
from addnests.vectors import is_whole, plus, times

MOST_AXES = 3
MOST_UNROLLED = 20
MOST_SPREAD = 60


def is_axes(value):
    """Whether a value is a number of axes that an array can have."""
    return is_whole(value) and 1 <= value <= MOST_AXES


def is_vector(value, axes):
    """Whether a value is a tuple of so many whole numbers."""
    return isinstance(value, tuple) and len(value) == axes and all([is_whole(number) for number in value])


def is_loop(value, axes):
    """Whether a value is a loop for so many axes."""
    if not isinstance(value, tuple) or len(value) != 2:
        return False
    count, step = value
    return is_whole(count) and count >= 0 and is_vector(step, axes)


def is_cell(value, axes):
    """Whether a value is a cell of an array with so many axes."""
    if not is_axes(axes):
        raise InvalidNumber(axes)
    return is_vector(value, axes)


def is_nest(value, axes):
    """Whether a value is a nest for so many axes."""
    if not is_axes(axes):
        raise InvalidNumber(axes)
    if not isinstance(value, tuple) or len(value) != 3:
        return False
    loops, place, amount = value
    if not isinstance(loops, list) or not all([is_loop(loop, axes) for loop in loops]):
        return False
    return is_vector(place, axes) and is_whole(amount)


def check_nest(value):
    """Raise InvalidNest unless a value is a nest for 1, 2 or 3 axes."""
    if not any([is_nest(value, axes) for axes in range(1, MOST_AXES + 1)]):
        raise InvalidNest(value)


def check_index(nest, at):
    """Raise InvalidNumber unless `at` is the index of a loop of a nest."""
    if not is_whole(at) or not 0 <= at < len(nest[0]):
        raise InvalidNumber(at)


def check_size(size, least, most):
    """Raise InvalidNumber unless a size is a whole number within bounds, of which the upper one may be None."""
    if not is_whole(size) or size < least or (most is not None and size > most):
        raise InvalidNumber(size)


def with_loops(nest, at, loops, rounds):
    """The nest with other loops in the place of one, beginning so many rounds of that one later."""
    old, place, amount = nest
    step = old[at][1]
    return (old[:at] + loops + old[at + 1:], plus(place, times(rounds, step)), amount)


def split(nest, at, rounds):
    """Two nests: for the first rounds of a loop, and for its others."""
    check_nest(nest)
    check_index(nest, at)
    count, step = nest[0][at]
    check_size(rounds, 0, count)
    return [
        with_loops(nest, at, [(rounds, step)], 0),
        with_loops(nest, at, [(count - rounds, step)], rounds),
    ]


def blocked(nest, at, size):
    """A nest that goes through a loop in blocks of rounds, and one for the rounds that are left, if there are any."""
    check_nest(nest)
    check_index(nest, at)
    check_size(size, 1, None)
    count, step = nest[0][at]
    left = count % size
    nests = [with_loops(nest, at, [(count // size, times(size, step)), (size, step)], 0)]
    if left > 0:
        nests.append(with_loops(nest, at, [(left, step)], count - left))
    return nests


def unrolled(nest, at, size):
    """So many nests, each of which takes the next of the first rounds of a loop, and from there each `size`-th one."""
    check_nest(nest)
    check_index(nest, at)
    check_size(size, 1, MOST_UNROLLED)
    count, step = nest[0][at]
    wide = times(size, step)
    return [with_loops(nest, at, [((count - first + size - 1) // size, wide)], first) for first in range(size)]


def spread(nest, at):
    """One nest without a loop for each of its rounds."""
    check_nest(nest)
    check_index(nest, at)
    count = nest[0][at][0]
    check_size(count, 0, MOST_SPREAD)
    return [with_loops(nest, at, [], done) for done in range(count)]


def turned(nest, at):
    """The nest with a loop that goes through its rounds from the last to the first."""
    check_nest(nest)
    check_index(nest, at)
    count, step = nest[0][at]
    return with_loops(nest, at, [(count, times(-1, step))], count - 1)


def swapped(nest, at, other):
    """The nest with two of its loops in each other's place."""
    check_nest(nest)
    check_index(nest, at)
    check_index(nest, other)
    loops, place, amount = nest
    changed = list(loops)
    changed[at] = loops[other]
    changed[other] = loops[at]
    return (changed, place, amount)


def joined(one, other, at):
    """One nest for two of which the other goes on where a loop of the one ends; None if it does not."""
    check_nest(one)
    if not is_nest(other, len(one[1])):
        raise InvalidNest(other)
    check_index(one, at)
    count, step = one[0][at]
    if at >= len(other[0]):
        return None
    more = other[0][at][0]
    if other != with_loops(one, at, [(more, step)], count):
        return None
    return with_loops(one, at, [(count + more, step)], 0)
