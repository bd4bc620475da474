"""Programs in a tidy form."""

from addnests.nests import turned
from addnests.programs import Program, check_program


def is_idle(nest):
    """Whether a nest adds nothing since its amount is 0 or a loop has no rounds."""
    loops, place, amount = nest
    return amount == 0 or 0 in [count for count, step in loops]


def without_resting(nest):
    """The nest without loops that do not move: those of one round, and those with a step of nothing but zeros."""
    loops, place, amount = nest
    moving = []
    for count, step in loops:
        if not any(step):
            amount = amount * count
        elif count != 1:
            moving.append((count, step))
    return (moving, place, amount)


def goes_back(step):
    """Whether the first number of a step that is not 0 is below 0."""
    return step < tuple([0] * len(step))


def forwards(nest):
    """The nest with each loop turned that goes back."""
    result = nest
    for at, (count, step) in enumerate(nest[0]):
        if goes_back(step):
            result = turned(result, at)
    return result


def collected_nests(nests):
    """Nests in order, where those with the same loops and the same place have become one, unless its amount is 0."""
    sums = {}
    for loops, place, amount in nests:
        key = (tuple(sorted(loops)), place)
        sums[key] = sums.get(key, 0) + amount
    return [(list(loops), place, sums[loops, place]) for loops, place in sorted(sums) if sums[loops, place] != 0]


def tidied(program):
    """An equal program without what adds nothing or does not move, with its loops and nests in order."""
    check_program(program)
    nests = [without_resting(nest) for nest in program.nests() if not is_idle(nest)]
    return Program(program.axes, collected_nests([forwards(nest) for nest in nests]))
