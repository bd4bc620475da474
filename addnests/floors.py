"""Sums of floors, congruences, and endless progressions (member, period) of whole numbers."""


def floors(count, times, plus, over):
    """The sum of (times * i + plus) // over for i from 0 to count - 1."""
    total = 0
    while count > 0:
        wholes, times = divmod(times, over)
        total = total + wholes * (count * (count - 1) // 2)
        wholes, plus = divmod(plus, over)
        total = total + wholes * count
        # What is left counts the pairs of whole numbers below a line. Counted along the other axis, they are such a sum
        # again, with both numbers of the line one step further in Euclid's algorithm.
        count, plus = divmod(times * count + plus, over)
        times, over = over, times
    return total


def divided_with(one, other):
    """The greatest common divisor of two numbers, and a factor that takes the one to it modulo the other."""
    factor = 1
    following = 0
    while other != 0:
        quotient, rest = divmod(one, other)
        one, other = other, rest
        factor, following = following, factor - quotient * following
    return (one, factor)


def congruent(factor, due, over):
    """The progression (member, period) of the numbers that times a factor leave the rest that is due; None for none."""
    shared, inverse = divided_with(factor % over, over)
    if due % shared != 0:
        return None
    period = over // shared
    return (due // shared * inverse % period, period)


def members_between(progression, low, high):
    """The least member of a progression (member, period) from a bound on, and how many there are up to another one."""
    member, period = progression
    least = low + (member - low) % period
    return (least, max(0, (high - least) // period + 1))
