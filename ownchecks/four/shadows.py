"""Shadows: the words that are even with each word of the half of an own code, and with no other one of its words."""

from ownchecks.base.linear import basis_by, head_place, is_word_of, product_bit, remainder_by, span_by, word_at
from ownchecks.base.spans import need_word
from ownchecks.code.codes import need_at_most, need_own, need_own_length
from ownchecks.errors import Refused
from ownchecks.four.families import half_by, has_fours_alone, is_four

MOST_LENGTH = 16


def is_against(row, word):
    """Whether this word of a code shows that the other one is not in the shadow."""
    is_odd = product_bit(row, word) == 1
    return is_odd == is_four(row)


def need_not_by_fours(code):
    """Refuse a code by fours."""
    if has_fours_alone(code):
        raise Refused(("fours",))


def least_shadow_by(basis):
    """The least word of the shadow of an own code that is told by its basis."""
    # each head is in just one word of the basis, so the product with this one can be chosen there
    return remainder_by(basis, word_at([head_place(row) for row in basis if not is_four(row)]))


def quarters_by(basis, half_basis):
    """The least words of the quarters."""
    other = [row for row in basis if not is_four(row)][0]
    one = least_shadow_by(basis)
    return 0, one, remainder_by(half_basis, other), remainder_by(half_basis, one ^ other)


def shadow_or_word(code, word):
    """That the word is in the shadow, or a word of the code that shows that it is not."""
    need_own(code)
    need_word(code.length, word)
    for row in code.basis:
        if is_against(row, word):
            return "word", row
    return ("shadow",)


def is_shadow_or_word(code, word, value):
    """Whether the value is a right answer of shadow_or_word."""
    need_own(code)
    need_word(code.length, word)
    if not isinstance(value, tuple) or not value:
        return False
    kind, *told = value
    if kind == "shadow":
        return not told and not any([is_against(row, word) for row in code.basis])
    return kind == "word" and len(told) == 1 and is_shown_by(code, word, told[0])


def is_shown_by(code, word, value):
    """Whether the value is a word of the code that shows that the word is not in the shadow."""
    if not is_word_of(code.length, value) or remainder_by(code.basis, value):
        return False
    return is_against(value, word)


def least_shadow(code):
    """The least word of the shadow."""
    need_own(code)
    return least_shadow_by(code.basis)


def shadow(code):
    """The ascending tuple of all words of the shadow."""
    need_own(code)
    need_at_most(code.length, MOST_LENGTH)
    least = least_shadow_by(code.basis)
    return tuple(sorted([least ^ word for word in span_by(code.basis)]))


def quarters(code):
    """The tuple of the least words of the quarters 0 to 3."""
    need_own(code)
    need_not_by_fours(code)
    return quarters_by(code.basis, basis_by(half_by(code.basis)))


def quarter_of(code, word):
    """The quarter of a word, None if it is in none."""
    need_own(code)
    need_word(code.length, word)
    need_not_by_fours(code)
    half_basis = basis_by(half_by(code.basis))
    least = quarters_by(code.basis, half_basis)
    rest = remainder_by(half_basis, word)
    return least.index(rest) if rest in least else None


def quarter_products(length):
    """For each two quarters the product of their words."""
    need_own_length(length)
    odd = length // 2 & 1
    return (0, 0, 0, 0), (0, odd, 1, 1 - odd), (0, 1, 0, 1), (0, 1 - odd, 1, odd)
