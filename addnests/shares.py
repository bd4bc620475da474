"""The rounds of a loop shared out among workers."""

from addnests.compare import first_apart
from addnests.errors import InvalidList
from addnests.nests import check_index, check_nest, check_size, with_loops
from addnests.programs import Program, check_axes, check_program
from addnests.vectors import times

MOST_WORKERS = 60


def check_shared(nest, at, workers):
    """Raise an error unless the loop of a nest can be shared out among so many workers."""
    check_nest(nest)
    check_index(nest, at)
    check_size(workers, 1, MOST_WORKERS)


def by_blocks(nest, at, workers):
    """One nest for each worker, the first one with the first rounds of a loop, and so on."""
    check_shared(nest, at, workers)
    count, step = nest[0][at]
    least = count // workers
    more = count % workers
    shares = []
    begin = 0
    for worker in range(workers):
        rounds = least + int(worker < more)
        shares.append(with_loops(nest, at, [(rounds, step)], begin))
        begin = begin + rounds
    return shares


def by_turns(nest, at, workers):
    """One nest for each worker, which take the rounds of a loop in turn."""
    check_shared(nest, at, workers)
    count, step = nest[0][at]
    wide = times(workers, step)
    return [with_loops(nest, at, [((count - k + workers - 1) // workers, wide)], k) for k in range(workers)]


def first_wrong(shares, whole, *, order=None):
    """The first cell in an order at which shares together add another sum than the whole, and the difference."""
    if not isinstance(shares, list):
        raise InvalidList(shares)
    for share in shares:
        check_program(share)
    check_program(whole)
    for share in shares:
        check_axes(share, whole)
    nests = [nest for share in shares for nest in share.nests()]
    return first_apart(Program(whole.axes, nests), whole, order=order)
