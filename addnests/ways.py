"""In how many ways the rounds of up to three loops together lead to a cell, from the cell of zeros."""

from addnests.axis import ways_to
from addnests.floors import congruent, members_between
from addnests.vectors import plus, times

MOST_LOOPS = 3


def cross(one, other, pair):
    """The determinant of two vectors on a pair of axes."""
    first, second = pair
    return one[first] * other[second] - one[second] * other[first]


def corner(steps, axes):
    """Indexes of two steps that are not parallel, and of the third one, and a pair of axes that tells; or None."""
    for one, other, third in [(0, 1, 2), (0, 2, 1), (1, 2, 0)]:
        for pair in [(first, second) for second in range(axes) for first in range(second)]:
            if cross(steps[one], steps[other], pair) != 0:
                return (one, other, third, pair)
    return None


def ways_along(loops, target):
    """The ways for loops whose steps are all parallel."""
    step = loops[0][1]
    axis = [number != 0 for number in step].index(True)
    if times(target[axis], step) != times(step[axis], target):
        return 0
    return ways_to([(count, other[axis]) for count, other in loops], target[axis])


def within_bounds(conditions, low, high):
    """The least and the greatest number, between two bounds, whose product with each factor is within its bounds."""
    for factor, least, greatest in conditions:
        if factor < 0:
            factor, least, greatest = -factor, -greatest, -least
        if factor > 0:
            low = max(low, -(-least // factor))
            high = min(high, greatest // factor)
        elif not least <= 0 <= greatest:
            high = low - 1
    return (low, high)


def common_members(one, other, over):
    """The progression of the numbers with two factors, each with the rest that is due; None if there is none."""
    first = congruent(one[0], one[1], over)
    if first is None:
        return None
    member, period = first
    second = congruent(other[0] * period, other[1] - other[0] * member, over)
    if second is None:
        return None
    return (member + period * second[0], period * second[1])


def ways_across(loops, target, found):
    """The ways for three loops of which two, found with a pair of axes, are not parallel.

    A round r of the third loop leaves one round of the one loop and one of the other, which are quotients of linear
    terms in r by the determinant of both steps: these have to be whole, within the loops, and right on each axis.
    """
    (count, step), (far_count, far_step), (last_count, last_step) = [loops[at] for at in found[:3]]
    pair = found[3]
    over = cross(step, far_step, pair)
    if over < 0:
        count, step, far_count, far_step, over = far_count, far_step, count, step, -over
    begin, slope = cross(target, far_step, pair), cross(last_step, far_step, pair)
    far_begin, far_slope = cross(step, target, pair), cross(step, last_step, pair)
    conditions = [
        (slope, begin - over * (count - 1), begin),
        (far_slope, far_begin - over * (far_count - 1), far_begin),
    ]
    for a, b, c, due in zip(step, far_step, last_step, target):
        left = over * due - a * begin - b * far_begin
        conditions.append((over * c - a * slope - b * far_slope, left, left))
    low, high = within_bounds(conditions, 0, last_count - 1)
    # Most cells are out of reach: that is seen before the rounds that leave whole ones are sought.
    if low > high:
        return 0
    progression = common_members((slope, begin), (far_slope, far_begin), over)
    if progression is None:
        return 0
    return members_between(progression, low, high)[1]


def ways(loops, target):
    """In how many ways the rounds of loops that count lead to a cell."""
    if len(loops) == 0:
        return int(not any(target))
    if len(loops) > MOST_LOOPS:
        (count, step), *others = sorted(loops)
        return sum([ways(others, plus(target, times(-done, step))) for done in range(count)])
    idle = (1, times(0, target))
    filled_up = loops + [idle] * (MOST_LOOPS - len(loops))
    found = corner([step for count, step in filled_up], len(target))
    if found is None:
        return ways_along(loops, target)
    return ways_across(filled_up, target, found)
