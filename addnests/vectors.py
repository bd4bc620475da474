"""Whole numbers, and cells and steps as vectors of them."""


def is_whole(value):
    """Whether a value is an integer and no Boolean."""
    return isinstance(value, int) and not isinstance(value, bool)


def plus(one, other):
    """The sum of two vectors, number by number."""
    return tuple([a + b for a, b in zip(one, other)])


def times(number, vector):
    """A vector with each number multiplied."""
    return tuple([number * a for a in vector])


def product_sum(one, other):
    """The sum of the products of the numbers of two vectors, each with its counterpart."""
    return sum([a * b for a, b in zip(one, other)])
