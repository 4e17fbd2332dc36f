"""Neighbours of own codes, and the shortest ways from one own code to another one."""

from ownchecks.base.linear import basis_by, even_with, free_by, meet_by, ones_in, product_bit
from ownchecks.base.linear import remainder_by, span_by
from ownchecks.base.spans import need_number, need_word
from ownchecks.code.codes import Code, is_own, need_at_most, need_own, need_own_codes, need_own_length
from ownchecks.errors import InvalidOperation

MOST_LENGTH = 16


def neighbour_by(basis, word):
    """The basis of the neighbour by the word, of an own code that is told by its basis."""
    return basis_by(even_with(basis, word) + [word])


def distance_by(basis, other):
    """The distance of two own codes of one length that are told by their bases."""
    # the dimensions of their sum and of what they share add up to the length
    return len(basis_by(basis + other)) - len(basis)


def words_to(basis, other):
    """Words of the other code, as many as the distance: none of their sums but 0 is in the one."""
    reached = basis
    found = []
    for word in other:
        if remainder_by(reached, word):
            found.append(word)
            reached = basis_by(reached + (word,))
    return found


def neighbour_words(length, basis):
    """A word for each neighbour, unlike ones for unlike neighbours."""
    free = basis_by([1 << place for place in free_by(length, basis)])
    found = []
    for rest in span_by(free):
        if rest and not ones_in(rest) & 1:
            odd = [row for row in basis if product_bit(row, rest)]
            found = found + [rest, rest ^ odd[0]]
    return found


def neighbours_by(code, words):
    """The tuple of the neighbours by the words, ascending by their bases."""
    bases = sorted([neighbour_by(code.basis, word) for word in words])
    return tuple([Code(code.length, basis) for basis in bases])


def neighbour(code, word):
    """The neighbour by the word."""
    need_own(code)
    need_word(code.length, word)
    if ones_in(word) & 1 or remainder_by(code.basis, word) == 0:
        raise InvalidOperation("an even word that is not in the code is needed")
    return Code(code.length, neighbour_by(code.basis, word))


def neighbours(code):
    """The tuple of all neighbours, ascending by their bases."""
    need_own(code)
    need_at_most(code.length, MOST_LENGTH)
    return neighbours_by(code, neighbour_words(code.length, code.basis))


def distance(one, other):
    """In how many steps, and no fewer, neighbours lead from the one to the other."""
    need_own_codes(one, other)
    return distance_by(one.basis, other.basis)


def shared(one, other):
    """The code of the words that are in both."""
    need_own_codes(one, other)
    return Code(one.length, meet_by(one.length, one.basis, other.basis))


def steps_from(one, other):
    """How many neighbours of the one are nearer to the other one, as far, and farther."""
    need_own_codes(one, other)
    far = distance_by(one.basis, other.basis)
    near = (1 << far) - 1
    return near, near, (1 << one.dimension) - (1 << far + 1)


def nearer(one, other):
    """The tuple of the neighbours of the one that are nearer to the other, ascending by their bases."""
    need_own_codes(one, other)
    need_at_most(one.length, MOST_LENGTH)
    span = span_by(basis_by(words_to(one.basis, other.basis)))
    return neighbours_by(one, [word for word in span if word])


def way(one, other):
    """A shortest way from the one to the other, by neighbours."""
    need_own_codes(one, other)
    basis = one.basis
    steps = [one]
    for word in words_to(one.basis, other.basis):
        basis = neighbour_by(basis, word)
        steps.append(Code(one.length, basis))
    return tuple(steps)


def is_way(one, other, value):
    """Whether the value is a shortest way from the one to the other."""
    need_own_codes(one, other)
    far = distance_by(one.basis, other.basis)
    if not isinstance(value, tuple) or len(value) != far + 1:
        return False
    if not all([is_own_of(one.length, step) for step in value]):
        return False
    steps = [distance_by(value[at].basis, value[at + 1].basis) for at in range(far)]
    return value[0] == one and value[far] == other and all([step == 1 for step in steps])


def is_own_of(length, value):
    """Whether the value is an own code of the length."""
    return isinstance(value, Code) and value.length == length and is_own(value)


def ways_count(length, steps):
    """How many shortest ways there are between two codes at the distance."""
    need_own_length(length)
    need_number(steps, 0, length // 2 - 1)
    many = 1
    for step in range(1, steps + 1):
        many = many * ((1 << step) - 1)
    return many
