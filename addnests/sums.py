"""Sums of products of a few factors 1 - z ** v, decided by multiplying out what they do not share.

A sum is a dict of groups: from a tuple of members, which name the factors, to what these factors are multiplied by,
the terms, a dict from places to amounts other than 0. No member stands twice in a key.

A scope (modulus, limit) tells which terms of a sum are asked for: amounts are counted modulo the modulus unless it
is 0, and places behind the limit are left out unless it is None. As all factors begin with 1 at the place 0 and go
on behind it, what is left out has no effect on what is asked for.
"""

# The powers of a primitive root of a prime tell most sums from 0 at a glance.
PRIME = 2147483647
ROOT = 7

# So many thinned keys are looked at in search of groups that are close to each other, and no more.
MOST_KEYS = 100000

# The scope of all terms.
ALL = (0, None)


def ranked(groups, vectors):
    """The sum divided by the factors of all groups, with other keys; the vectors of its members; those left out.

    The members are numbers from 0 on in the order of how many groups have them, the most common one first.
    """
    many = {}
    for key in groups:
        for member in key:
            many[member] = many.get(member, 0) + 1
    order = sorted([one for one in many if many[one] < len(groups)], key=lambda one: (-many[one], one))
    rank = {one: at for at, one in enumerate(order)}
    renamed = {tuple(sorted([rank[one] for one in key if one in rank])): groups[key] for key in groups}
    return (renamed, [vectors[one] for one in order], [vectors[one] for one in many if one not in rank])


def ranked_products(products):
    """The same for a sum whose members are pairs of a vector and a number."""
    return ranked(products, {member: member[0] for key in products for member in key})


def power(exponent):
    """The root's power for an integer of any sign, modulo the prime."""
    left = exponent % (PRIME - 1)
    result = 1
    square = ROOT
    while left > 0:
        if left & 1:
            result = result * square % PRIME
        square = square * square % PRIME
        left = left >> 1
    return result


def residue(groups, vectors):
    """The value of a sum at the root, modulo the prime: the sum is not 0 if this is not 0."""
    values = [1 - power(vector) for vector in vectors]
    total = 0
    for key in groups:
        part = sum([amount * power(place) for place, amount in groups[key].items()])
        for member in key:
            part = part * values[member] % PRIME
        total = total + part
    return total % PRIME


def without_zeros(terms):
    """The terms whose amount is not 0."""
    if 0 not in list(terms.values()):
        return terms
    return {place: amount for place, amount in terms.items() if amount != 0}


def trimmed(terms, scope):
    """The terms that a scope asks for."""
    modulus, limit = scope
    if modulus > 0:
        terms = {place: amount % modulus for place, amount in terms.items()}
    if limit is not None:
        terms = {place: amount for place, amount in terms.items() if place <= limit}
    return without_zeros(terms)


def with_terms(groups):
    """The groups that have terms."""
    return {key: groups[key] for key in groups if len(groups[key]) > 0}


def multiplied(terms, vector, scope):
    """The terms times a factor 1 - z ** vector."""
    total = dict(terms)
    for place, amount in terms.items():
        behind = place + vector
        total[behind] = total.get(behind, 0) - amount
    return trimmed(total, scope)


def multiplied_by_all(terms, members, vectors, scope):
    """The terms times the factors of some members."""
    for member in members:
        terms = multiplied(terms, vectors[member], scope)
    return terms


def thinned(key, most):
    """All that can be left of a key when at most so many members are taken out."""
    if most == 0 or len(key) == 0:
        return [key]
    return [key[:1] + rest for rest in thinned(key[1:], most)] + thinned(key[1:], most - 1)


def ways(size, most):
    """How many thinned keys there are of a key of some size."""
    total = 1
    chosen = 1
    for taken in range(1, most + 1):
        chosen = chosen * (size - taken + 1) // taken
        total = total + chosen
    return total


def merged(keys, rest, groups, vectors, scope):
    """The terms of the sum of some groups, divided by the factors of a key that they have in common."""
    total = {}
    for key in keys:
        others = [member for member in key if member not in rest]
        for place, amount in multiplied_by_all(groups[key], others, vectors, scope).items():
            total[place] = total.get(place, 0) + amount
    return trimmed(total, scope)


def met(groups, most, vectors, scope):
    """The same sum, where groups that are alike but for so many members each have become one, the closest first."""
    sharing = {}
    for key in groups:
        for rest in thinned(key, most):
            sharing[rest] = sharing.get(rest, []) + [key]
    several = [rest for rest in sharing if len(sharing[rest]) > 1]
    taken = {}
    result = {}
    for rest in sorted(several, key=lambda one: (-len(one), -len(sharing[one]), one)):
        free = [key for key in sharing[rest] if key not in taken]
        if len(free) > 1:
            for key in free:
                taken[key] = True
            result[rest] = merged(free, rest, groups, vectors, scope)
    for key in groups:
        if key not in taken:
            result[key] = groups[key]
    return with_terms(result)


def gathered(groups, vectors, scope):
    """The same sum in fewer groups, since those that differ least often cancel when nothing else is expanded."""
    longest = max([len(key) for key in groups])
    for most in range(1, longest + 1):
        before = 0
        while len(groups) not in (0, 1, before) and sum([ways(len(key), most) for key in groups]) <= MOST_KEYS:
            before = len(groups)
            groups = met(groups, most, vectors, scope)
    return groups


def runs(keys, depth):
    """Sorted keys, cut into lists of those with the same member at a depth."""
    starts = [at for at in range(len(keys)) if at == 0 or keys[at][depth] != keys[at - 1][depth]]
    return [keys[start:end] for start, end in zip(starts, starts[1:] + [len(keys)])]


def expanded(keys, depth, groups, vectors, scope):
    """The terms of the sum of some groups, divided by the factors ahead of a depth, which their sorted keys share.

    Members behind others are multiplied out first: the rare ones, without which keys cannot meet.
    """
    if len(keys) == 1:
        return multiplied_by_all(groups[keys[0]], keys[0][depth:][::-1], vectors, scope)
    total = {}
    longer = keys
    if len(keys[0]) == depth:
        total = dict(groups[keys[0]])
        longer = keys[1:]
    for run in runs(longer, depth):
        inner = expanded(run, depth + 1, groups, vectors, scope)
        for place, amount in multiplied(inner, vectors[run[0][depth]], scope).items():
            total[place] = total.get(place, 0) + amount
    return trimmed(total, scope)


def is_zero(products):
    """Whether a sum is 0; the members of its keys are pairs of a vector and a number."""
    groups, vectors, shared = ranked_products(products)
    if residue(groups, vectors) != 0:
        return False
    if len(groups) > 1:
        groups, vectors, shared = ranked(gathered(groups, vectors, ALL), vectors)
    if len(groups) == 0:
        return True
    return len(expanded(sorted(groups), 0, groups, vectors, ALL)) == 0
