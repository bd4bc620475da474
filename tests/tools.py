"""What the tests share: values that fit nowhere, and nests done round by round."""

import itertools

from addnests.families import Family
from addnests.programs import Program

BIG = 10 ** 40


def misfits():
    """Values of all the kinds that are neither a whole number, a cell, a nest, a list nor a program."""
    return [None, True, False, "", "1", "(1,)", {}, {0: 1}, {"a": [1]}, Family(1, []), {"n": [Family(2, [])]}]


def not_numbers():
    """Values that are no whole numbers."""
    return misfits() + [[], [1], (), (1,), ([],), Program(1, [])]


def round_by_round(nests):
    """The sums that nests add, for each cell where it is not 0, found by going through all rounds."""
    sums = {}
    for loops, place, amount in nests:
        for rounds in itertools.product(*[range(count) for count, step in loops]):
            cell = list(place)
            for done, (count, step) in zip(rounds, loops):
                cell = [number + done * far for number, far in zip(cell, step)]
            sums[tuple(cell)] = sums.get(tuple(cell), 0) + amount
    return {cell: amount for cell, amount in sums.items() if amount != 0}


def lists_within(value):
    """All lists in a value, at any depth."""
    found = [value] if isinstance(value, list) else []
    if isinstance(value, (list, tuple)):
        for item in value:
            found = found + lists_within(item)
    return found


def raised(kind, call, *values, **named):
    """The error of a kind that a call raises, or None if it raises none."""
    try:
        call(*values, **named)
    except kind as error:
        return error if type(error) is kind else None
    return None
