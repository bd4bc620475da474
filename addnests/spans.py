"""Between which numbers on each axis the cells are that get something from nests."""

from addnests.firsts import spelled_out
from addnests.quotients import denominator, numerator, unpacked, weights_for


def lows(numbers):
    """The sum of the least places of factors 1 - z ** v, of which each has the places 0 and v."""
    return sum([min(0, number) for number in numbers])


def highs(numbers):
    """The sum of the greatest places of factors 1 - z ** v."""
    return sum([max(0, number) for number in numbers])


def span(places, factors, divisors):
    """The least and the greatest place of terms times factors by divisors: those of products add up."""
    least = min(places) + lows(factors) - lows(divisors)
    greatest = max(places) + highs(factors) - highs(divisors)
    return (least, greatest)


def on_axis(axis, cells):
    """The numbers of cells on an axis."""
    return [cell[axis] for cell in cells]


def spans(nests, axes):
    """For each axis the least and the greatest number of a cell whose sum is not 0; None if there is no such cell."""
    terms, shared = spelled_out(numerator(nests, axes))
    if len(terms) == 0:
        return None
    weights = weights_for(nests, axes)
    cells = [unpacked(place, weights) for place in terms]
    factors = [unpacked(vector, weights) for vector in shared]
    divisors = [unpacked(vector, weights) for vector in denominator(nests, axes)]
    return [span(on_axis(axis, cells), on_axis(axis, factors), on_axis(axis, divisors)) for axis in range(axes)]
