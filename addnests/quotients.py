"""Nests as quotients of a few terms, brought to one denominator.

A cell is written as the exponent of a variable z, an amount as its coefficient. A loop with count n and step s is
then the quotient of 1 - z ** (n * s) by 1 - z ** s, and a nest is its amount times z ** place times such quotients.
Cells and steps are packed into single integers, which keep apart what can occur here, in Python's order of cells.
"""

from addnests.sums import without_zeros
from addnests.vectors import product_sum


def reach(rows, axis):
    """A number that no term of the nests gets to on an axis, on either side, over the common denominator too."""
    total = 1
    for loops, place, amount in rows:
        total = total + abs(place[axis]) + sum([(count + 1) * abs(step[axis]) for count, step in loops])
    return total


def weights_for(rows, axes):
    """For each axis the number by which it is multiplied where cells are packed."""
    weights = [1]
    for axis in range(axes - 1, 0, -1):
        # The difference of two terms is below twice the reach, and has to stay below half of the next weight.
        weights = [4 * reach(rows, axis) * weights[0]] + weights
    return weights


def unpacked(place, weights):
    """The cell of a packed place: each of its numbers is nearest to what is left, as the others weigh less."""
    cell = []
    left = place
    for weight in weights:
        number = (2 * left + weight) // (2 * weight)
        cell.append(number)
        left = left - number * weight
    return tuple(cell)


def without(some, others):
    """What is left of a list when the members of another one are struck out, each as often as it is there."""
    struck = list(others)
    left = []
    for one in some:
        if one in struck:
            struck.remove(one)
        else:
            left.append(one)
    return left


def reduced(factors, divisors):
    """Factors and divisors, both in order, without those that stand on both sides."""
    return (tuple(sorted(without(factors, divisors))), tuple(sorted(without(divisors, factors))))


def quotient(row, weights):
    """A nest as ((factors, divisors), place, amount), packed; a vector v among them stands for 1 - z ** v."""
    loops, cell, amount = row
    place = product_sum(cell, weights)
    factors = []
    divisors = []
    for count, step in loops:
        stride = product_sum(step, weights)
        if count < 2 or stride == 0:
            amount = amount * count
            continue
        if stride < 0:
            # All divisors look the same way, so that opposite steps share one: the rounds are taken from the last on.
            place = place + (count - 1) * stride
            stride = -stride
        factors.append(count * stride)
        divisors.append(stride)
    return (reduced(factors, divisors), place, amount)


def collected(terms):
    """The sum of terms (place, amount) as a dict from places to amounts other than 0."""
    total = {}
    for place, amount in terms:
        total[place] = total.get(place, 0) + amount
    return without_zeros(total)


def grouped(quotients):
    """A dict from factors and divisors to the sum of the terms of the nests that have them, where it is not zero."""
    terms = {}
    for kind, place, amount in quotients:
        terms[kind] = terms.get(kind, []) + [(place, amount)]
    sums = {kind: collected(terms[kind]) for kind in terms}
    return {kind: sums[kind] for kind in sums if len(sums[kind]) > 0}


def numbered(vectors):
    """The vectors of a list as pairs with how many equal ones stand in front, so that equal ones become unlike."""
    return [(vector, vectors[:at].count(vector)) for at, vector in enumerate(vectors)]


def common_divisors(groups):
    """The divisors of the least common denominator, numbered."""
    found = {}
    for factors, divisors in groups:
        for pair in numbered(divisors):
            found[pair] = True
    return sorted(found)


def cleared(groups):
    """The sum of groups over their common denominator: a dict from numbered factors to terms."""
    shared = common_divisors(groups)
    result = {}
    for factors, divisors in groups:
        own = numbered(divisors)
        missing = [pair[0] for pair in shared if pair not in own]
        key = tuple(numbered(sorted(list(factors) + missing)))
        result[key] = groups[factors, divisors]
    return result


def packed(rows, axes):
    """The sums of the nests with the same factors and divisors, packed."""
    weights = weights_for(rows, axes)
    return grouped([quotient(row, weights) for row in rows])


def denominator(rows, axes):
    """The vectors v of the factors 1 - z ** v of a common denominator of a sum of nests."""
    return [vector for vector, nth in common_divisors(packed(rows, axes))]


def numerator(rows, axes):
    """What is left of the sum of nests when it is multiplied by this denominator.

    It is a dict from tuples of factors, numbered, to what is multiplied by them: a dict from places to amounts.
    """
    return cleared(packed(rows, axes))
