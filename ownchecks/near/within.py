"""Own codes around a code, and own codes between two."""

from ownchecks.base.linear import basis_by, checks_by, even_with, holds, meet_by, odd_pair, remainder_by, span_by
from ownchecks.base.spans import binomial, need_number
from ownchecks.code.codes import Code, is_odd_pair, need_at_most, need_one_length, need_own, need_own_codes
from ownchecks.errors import InvalidCode, InvalidOperation
from ownchecks.near.every import count_of
from ownchecks.near.neighbours import distance_by, is_own_of

MOST_LISTED = 135


def need_inner(inner):
    """Refuse what is no code of an even length."""
    if not isinstance(inner, Code) or inner.length & 1:
        raise InvalidCode("a code of an even length is needed")


def with_all(inner):
    """The basis of the span of the words of the code and of all."""
    return basis_by(inner.basis + ((1 << inner.length) - 1,))


def rests_by(basis, words):
    """The basis of the remainders of the words; its last word is the least one of their span, but 0."""
    return basis_by([remainder_by(basis, word) for word in words])


def one_greater(bases, basis_of_more):
    """The bases of all spans that have one of these spans and one word more, each once, ascending.

    `basis_of_more` tells for each of the bases what spans the words that can be put in.
    """
    found = {}
    for basis, words in zip(bases, basis_of_more):
        for rest in span_by(rests_by(basis, words)):
            if rest:
                found[basis_by(basis + (rest,))] = True
    return sorted(found)


def first_by(length, basis):
    """The basis of the first own code around a code that has all, and no words with an odd product."""
    while len(basis) < length // 2:
        basis = basis_by(basis + (rests_by(basis, checks_by(length, basis))[-1],))
    return basis


def between_with(inner_basis, other_basis):
    """The basis of the own code of a span and of the words of the other code that are even with all of it."""
    rows = other_basis
    for word in inner_basis:
        rows = even_with(rows, word)
    return basis_by(inner_basis + tuple(rows))


def around_or_odd(inner):
    """An own code around the code, or else two words of it with an odd product."""
    need_inner(inner)
    pair = odd_pair(inner.basis)
    if pair is not None:
        return "odd", pair[0], pair[1]
    return "own", Code(inner.length, first_by(inner.length, with_all(inner)))


def is_around_or_odd(inner, value):
    """Whether the value is a right answer of around_or_odd."""
    need_inner(inner)
    if not isinstance(value, tuple) or not value:
        return False
    kind, *told = value
    if kind == "odd":
        return len(told) == 2 and is_odd_pair(inner, told[0], told[1])
    if kind != "own" or len(told) != 1:
        return False
    return is_own_of(inner.length, told[0]) and holds(told[0].basis, inner.basis)


def first_around(inner):
    """The first own code around the code, None if there is none."""
    kind, *told = around_or_odd(inner)
    return told[0] if kind == "own" else None


def count_around(inner):
    """How many own codes are around the code."""
    need_inner(inner)
    if odd_pair(inner.basis) is not None:
        return 0
    # as many as there are of the length that is left when each word but all takes two places
    return count_of(inner.length - 2 * len(with_all(inner)) + 2)


def codes_around(inner):
    """The tuple of all own codes around the code, ascending by their bases."""
    many = count_around(inner)
    need_at_most(many, MOST_LISTED)
    if not many:
        return ()
    bases = [with_all(inner)]
    while len(bases[0]) < inner.length // 2:
        bases = one_greater(bases, [checks_by(inner.length, basis) for basis in bases])
    return tuple([Code(inner.length, basis) for basis in bases])


def is_between(one, other, value):
    """Whether the value is an own code whose distances to both codes make up their distance."""
    need_own_codes(one, other)
    if not is_own_of(one.length, value):
        return False
    ways = distance_by(one.basis, value.basis) + distance_by(value.basis, other.basis)
    return ways == distance_by(one.basis, other.basis)


def between_by(one, other, inner):
    """The code between both that shares just the inner one with the one."""
    need_own(one)
    need_own(other)
    need_inner(inner)
    need_one_length(one, other)
    need_one_length(one, inner)
    both = meet_by(one.length, one.basis, other.basis)
    if not holds(one.basis, inner.basis) or not holds(inner.basis, both):
        raise InvalidOperation("a code in the one that has all that both share is needed")
    return Code(one.length, between_with(inner.basis, other.basis))


def count_between(one, other, steps):
    """How many codes between both are at so many steps from the one."""
    need_own_codes(one, other)
    far = distance_by(one.basis, other.basis)
    need_number(steps, 0, far)
    return binomial(far, steps)


def codes_between(one, other):
    """The tuple of all codes between both, ascending by their bases."""
    need_own_codes(one, other)
    far = distance_by(one.basis, other.basis)
    need_at_most(sum([binomial(far, steps) for steps in range(far + 1)]), MOST_LISTED)
    latest = [meet_by(one.length, one.basis, other.basis)]
    found = latest
    for _ in range(far):
        latest = one_greater(latest, [one.basis] * len(latest))
        found = found + latest
    bases = sorted([between_with(basis, other.basis) for basis in found])
    return tuple([Code(one.length, basis) for basis in bases])
