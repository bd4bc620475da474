"""Loops (count, stride) on one axis: how often their rounds together lead to a number, or up to one."""

from addnests.floors import congruent, divided_with, floors, members_between


def upwards(loops):
    """The least number that rounds lead to, and loops with strides above 0 that lead to the same ones from there."""
    least = sum([(count - 1) * stride for count, stride in loops if stride < 0])
    return (least, [(count, abs(stride)) for count, stride in loops])


def longest_first(loops, many):
    """So many loops, those with the most rounds first, filled up with loops of one round."""
    idle = [(1, 1)] * (many - len(loops))
    return sorted(loops + idle, reverse=True)


def clamped(number, most):
    """The number, but at least 0 and at most another one."""
    return max(0, min(most, number))


def ways_up_to(loops, top):
    """In how many ways the rounds of up to two loops upwards lead to a number of at most `top`."""
    # The sum goes over the loop with fewer rounds, as it takes the fewer steps.
    (inner_count, inner_stride), (count, stride) = longest_first(loops, 2)
    full = clamped((top - (inner_count - 1) * inner_stride) // stride + 1, count)
    part = clamped(top // stride + 1, count) - full
    return full * inner_count + part + floors(part, -stride, top - full * stride, inner_stride)


def least_ends(rounds, one, other):
    """The sum of the floors of the lesser bound of the solutions for the numbers begin + gap * i, for some rounds i.

    A loop is given as (stride, factor, last round). The bound for a number m is m * (factor of the other one) / (stride
    of the one) up to the number that the last round of the one leads to, and behind it ((last round of the one) - m *
    (factor of the one)) / (stride of the other one).
    """
    many, begin, gap = rounds
    stride, factor, last = one
    far_stride, far_factor = other[:2]
    near = clamped((stride * last - begin) // gap + 1, many)
    behind = begin + gap * near
    first = floors(near, far_factor * gap, far_factor * begin, stride)
    return first + floors(many - near, -factor * gap, last - factor * behind, far_stride)


def ways_upwards_to(loops, target):
    """In how many ways the rounds of up to three loops upwards lead to a number.

    With a and b the strides of two loops, divided by what they share, and a * f + b * g = 1, the rounds of these two
    that lead to m are f * m + b * x and g * m - a * x for whole x. As both rounds are within their loops, x is at most
    the lesser one of two bounds, and -x is, too; and m goes through a progression with the rounds of the third loop.
    """
    (count, stride), (far_count, far_stride), (outer_count, outer_stride) = longest_first(loops, 3)
    shared, factor = divided_with(stride, far_stride)
    progression = congruent(outer_stride, target, shared)
    if progression is None:
        return 0
    reach = (count - 1) * stride + (far_count - 1) * far_stride
    low = max(0, -((reach - target) // outer_stride))
    least, many = members_between(progression, low, min(outer_count - 1, target // outer_stride))
    period = progression[1]
    begin = (target - (least + (many - 1) * period) * outer_stride) // shared
    rounds = (many, begin, period * outer_stride // shared)
    far_factor = (shared - stride * factor) // far_stride
    one = (stride // shared, factor, count - 1)
    other = (far_stride // shared, far_factor, far_count - 1)
    return many + least_ends(rounds, one, other) + least_ends(rounds, other, one)


def ways_to(loops, target):
    """In how many ways the rounds of up to three loops lead to a number."""
    least, ascending = upwards(loops)
    return ways_upwards_to(ascending, target - least)
