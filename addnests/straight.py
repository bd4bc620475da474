"""Straight nests: each loop that counts moves along one axis, and at most two of them along the same one."""

from addnests.axis import upwards, ways_up_to
from addnests.tidy import is_idle, without_resting

MOST_ON_AXIS = 2


def axes_of(step):
    """The axes on which a step is not zero."""
    return [axis for axis, number in enumerate(step) if number != 0]


def is_straight(nest):
    """Whether a nest is straight."""
    moved = []
    for count, step in nest[0]:
        if count > 1 and any(step):
            moved.append(axes_of(step))
    if any([len(axes) > 1 for axes in moved]):
        return False
    return all([moved.count(axes) <= MOST_ON_AXIS for axes in moved])


def sides_of(nest):
    """For each axis the least number at which a straight nest adds, and the loops upwards from there."""
    loops, place, amount = nest
    sides = []
    for axis, number in enumerate(place):
        least, ascending = upwards([(count, step[axis]) for count, step in loops if step[axis] != 0])
        sides.append((number + least, ascending))
    return sides


def lanes_of(nests):
    """Straight nests as (amount, sides), without those that add nothing."""
    moving = [without_resting(nest) for nest in nests if not is_idle(nest)]
    return [(nest[2], sides_of(nest)) for nest in moving]


def ways_below(side, top):
    """In how many ways a nest gets to a number of at most `top` on an axis."""
    least, loops = side
    return ways_up_to(loops, top - least)


def amount_between(lane, low, high):
    """What a straight nest adds between two cells on each axis, of which the second is nowhere below the first."""
    amount, sides = lane
    for axis, side in enumerate(sides):
        amount = amount * (ways_below(side, high[axis]) - ways_below(side, low[axis] - 1))
    return amount


def amount_up_to(lanes, top):
    """What straight nests on one axis add up to a number."""
    return sum([amount * ways_below(sides[0], top) for amount, sides in lanes])


def ends_of(lanes):
    """The least and the greatest number at which straight nests on one axis add."""
    lows = []
    highs = []
    for amount, sides in lanes:
        least, loops = sides[0]
        lows.append(least)
        highs.append(least + sum([(count - 1) * stride for count, stride in loops]))
    return (min(lows), max(highs))


def number_reaching(lanes, wanted, low, high):
    """The least number up to which nests add enough, above one at which they do not and up to one at which they do."""
    while high - low > 1:
        middle = (low + high) // 2
        if amount_up_to(lanes, middle) < wanted:
            low = middle
        else:
            high = middle
    return high
