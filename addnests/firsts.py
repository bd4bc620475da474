"""The first term of a sum of products of a few factors 1 - z ** v, all of which have v above 0.

The members of the keys of the sums are pairs of a vector and a number.
"""

from addnests.sums import ALL, expanded, gathered, ranked, ranked_products, trimmed, with_terms

# How many terms of each group are looked at first, since most sums that are not 0 show it early.
FEW = 16
MORE = 256


def asked(groups, scope):
    """The groups with those of their terms that a scope asks for."""
    return with_terms({key: trimmed(groups[key], scope) for key in groups})


def least_places(places, vectors, many):
    """The least places of the product of some terms and factors if nothing cancels, so many of them or all."""
    found = sorted(places)[:many]
    for vector in vectors:
        found = sorted(found + [place + vector for place in found])[:many]
    return found


def horizon(groups, vectors, many):
    """A place up to which no group has more than about so many terms; None if no group has as many at all."""
    ends = []
    for key in groups:
        found = least_places(list(groups[key]), [vectors[member] for member in key], many)
        if len(found) == many:
            ends.append(found[-1])
    return min(ends, default=None)


def first_within(groups, vectors, scope):
    """The first term of a sum that a scope asks for, as (place, amount), or None if there is none."""
    near = asked(groups, scope)
    if len(near) == 0:
        return None
    terms = expanded(sorted(near), 0, near, vectors, scope)
    if len(terms) == 0:
        return None
    place = min(list(terms))
    return (place, terms[place])


def early_term(products, modulus):
    """The first term of a sum as (place, amount), but None if it takes many terms to find it, too."""
    groups, vectors, shared = ranked_products(asked(products, (modulus, None)))
    return first_within(groups, vectors, (modulus, horizon(groups, vectors, FEW)))


def first_term(products, modulus):
    """The first term of a sum as (place, amount), or None, with amounts modulo a number unless it is 0."""
    found = early_term(products, modulus)
    if found is not None:
        return found
    everything = (modulus, None)
    groups, vectors, shared = ranked_products(asked(products, everything))
    if len(groups) > 1:
        groups, vectors, shared = ranked(gathered(groups, vectors, everything), vectors)
    found = first_within(groups, vectors, (modulus, horizon(groups, vectors, MORE)))
    if found is not None:
        return found
    return first_within(groups, vectors, everything)


def spelled_out(products):
    """All terms of a sum divided by some factors, and the vectors of these factors."""
    groups, vectors, shared = ranked_products(products)
    more = []
    if len(groups) > 1:
        groups, vectors, more = ranked(gathered(groups, vectors, ALL), vectors)
    if len(groups) == 0:
        return ({}, [])
    return (expanded(sorted(groups), 0, groups, vectors, ALL), shared + more)
