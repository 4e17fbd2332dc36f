"""Cosets of own codes: their products, leaders and counts, and the counts of the parents that they make."""

from ownchecks.base.linear import basis_by, free_by, head_place, is_from_to, is_word_of, ones_in, product_bit
from ownchecks.base.linear import remainder_by, span_by, word_at
from ownchecks.base.spans import need_word
from ownchecks.code.codes import need_at_most, need_own
from ownchecks.errors import InvalidOperation
from ownchecks.weigh.counts import tally

MOST_COSETS = 16


def need_short(code):
    """Refuse what is no own code, and too long ones."""
    need_own(code)
    need_at_most(code.length, MOST_COSETS)


def need_its_word(code, word):
    """Refuse what is no own code, what is no word of its length, and too long codes."""
    need_own(code)
    need_word(code.length, word)
    need_at_most(code.length, MOST_COSETS)


def need_bits(many, bits):
    """Refuse what is no tuple of so many bits."""
    if not isinstance(bits, tuple) or len(bits) != many:
        raise InvalidOperation(f"a tuple of {many} bits is needed")
    if not all([is_from_to(bit, 0, 1) for bit in bits]):
        raise InvalidOperation("each bit is 0 or 1")


def coset_words(code, word):
    """The words of the coset of the word."""
    return [word ^ one for one in span_by(code.basis)]


def least_weight_by(code, word):
    """The least weight in the coset of the word."""
    return min([ones_in(one) for one in coset_words(code, word)])


def leader_by(code, word):
    """The least one of the leaders of the coset of the word."""
    least = least_weight_by(code, word)
    return min([one for one in coset_words(code, word) if ones_in(one) == least])


def remainders(code):
    """All remainders, ascending: one for each coset."""
    return span_by(basis_by([1 << place for place in free_by(code.length, code.basis)]))


def coset_of(code, word):
    """The ascending tuple of the words of the coset of the word."""
    need_its_word(code, word)
    return tuple(sorted(coset_words(code, word)))


def products_of(code, word):
    """The products of the word with the words of the basis."""
    need_its_word(code, word)
    return tuple([product_bit(row, word) for row in code.basis])


def word_with(code, bits):
    """The remainder with these products."""
    need_own(code)
    need_bits(code.dimension, bits)
    need_at_most(code.length, MOST_COSETS)
    # each head is in just one word of the basis, so the product with this one can be chosen there
    return remainder_by(code.basis, word_at([head_place(row) for row, bit in zip(code.basis, bits) if bit]))


def leader(code, word):
    """The least one of the leaders of the coset of the word."""
    need_its_word(code, word)
    return leader_by(code, word)


def is_leader(code, value):
    """Whether the value is a word of least weight in its coset."""
    need_short(code)
    return is_word_of(code.length, value) and ones_in(value) == least_weight_by(code, value)


def nearest(code, word):
    """The ascending tuple of the words of the code with the least distance from the word."""
    need_its_word(code, word)
    least = least_weight_by(code, word)
    return tuple([one for one in span_by(code.basis) if ones_in(one ^ word) == least])


def leaders(code):
    """The least leaders of all cosets, these ascending by their remainders."""
    need_short(code)
    return tuple([leader_by(code, rest) for rest in remainders(code)])


def least_weights(code):
    """How many cosets have the least weight 0, 1 and so on, up to the radius."""
    found = leaders(code)
    return tally(max([ones_in(word) for word in found]), found)


def signed_counts(code, word):
    """For each weight how many words of the code are even with the word, less how many are not."""
    need_its_word(code, word)
    row = [0] * (code.length + 1)
    for one in span_by(code.basis):
        row[ones_in(one)] += 1 - 2 * product_bit(one, word)
    return tuple(row)


def radius(code):
    """The greatest least weight of all cosets."""
    return len(least_weights(code)) - 1


def farthest(code):
    """The least remainder whose coset has the greatest least weight."""
    weights = [ones_in(word) for word in leaders(code)]
    return remainders(code)[weights.index(max(weights))]


def parent_counts(code, word):
    """The counts of the parents that the odd word makes."""
    need_its_word(code, word)
    if not ones_in(word) & 1:
        raise InvalidOperation("an odd word is needed")
    row = [0] * (code.length + 3)
    for one in span_by(code.basis):
        # a word that is odd with this one has 1 at both new places, a word of its coset at one of them
        row[ones_in(one) + 2 * product_bit(one, word)] += 1
        row[ones_in(one ^ word) + 1] += 1
    return tuple(row)
