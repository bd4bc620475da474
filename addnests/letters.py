"""Nests with a letter for a size, as terms over one denominator, with cells of polynomials in the place of cells."""

from addnests.lines import cell_at, flat, numbers_at_zeros, product
from addnests.quotients import cleared, grouped, reduced
from addnests.sums import without_zeros
from addnests.vectors import plus, times

ONE_ROUND = (0, 1)


def moving_loops(nests):
    """The loops of nests that do not have one round at every size."""
    return [(count, step) for loops, place, amount in nests for count, step in loops if count != ONE_ROUND]


def strides(nests):
    """The steps of the loops of nests that do not have one round at every size, as cells of polynomials."""
    return [flat(step) for count, step in moving_loops(nests)]


def quotient(nest):
    """A nest as ((factors, divisors), place, amount); a vector v among them stands for 1 - z ** v."""
    loops, place, amount = nest
    cell = flat(place)
    factors = []
    divisors = []
    for count, step in moving_loops([nest]):
        stride = flat(step)
        length = product(count, step)
        if stride < times(0, stride):
            # All divisors look the same way at large sizes: the rounds are taken from the last on.
            cell = plus(cell, plus(length, times(-1, stride)))
            stride = times(-1, stride)
            length = times(-1, length)
        factors.append(length)
        divisors.append(stride)
    return (reduced(factors, divisors), cell, amount)


def multiplied(terms, vector):
    """Terms times a factor 1 - z ** vector."""
    total = dict(terms)
    for place, amount in terms.items():
        behind = plus(place, vector)
        total[behind] = total.get(behind, 0) - amount
    return without_zeros(total)


def terms_of(nests):
    """The terms of a sum of nests, cleared of its denominators: a dict from places to amounts other than 0."""
    groups = cleared(grouped([quotient(nest) for nest in nests]))
    total = {}
    for key in groups:
        terms = groups[key]
        for vector, nth in key:
            terms = multiplied(terms, vector)
        for place, amount in terms.items():
            total[place] = total.get(place, 0) + amount
    return without_zeros(total)


def gaps(terms):
    """For each term but the first one the step from that one to it, with its amount."""
    first = min(list(terms))
    back = times(-1, first)
    return [(plus(place, back), amount) for place, amount in terms.items() if place != first]


def cancel_at(terms, number):
    """Whether nothing is left of terms at a number."""
    total = {}
    for place, amount in terms.items():
        cell = cell_at(place, number)
        total[cell] = total.get(cell, 0) + amount
    return not any(list(total.values()))


def cancelling_numbers(terms, low):
    """The numbers from a bound on at which nothing is left of some terms, in order."""
    left = terms[min(list(terms))]
    met = {}
    for gap, amount in gaps(terms):
        for number in numbers_at_zeros(gap, low):
            met[number] = met.get(number, 0) + amount
    return [number for number in sorted(met) if met[number] == -left and cancel_at(terms, number)]
