"""Codes: spans of words, with a length."""

from ownchecks.base.linear import basis_by, checks_by, even_with, holds, is_ascending_below, is_word_of
from ownchecks.base.linear import odd_pair, product_bit, remainder_by, span_by, within_by, word_at
from ownchecks.base.spans import MOST_LENGTH, need_even, need_length, need_words
from ownchecks.errors import InvalidCode, InvalidOperation, TooMany

MOST_LISTED = 12


class Code:
    """The span of some words of a length; it never changes."""

    def __init__(self, length, words):
        need_length(length)
        need_words(length, words)
        self._length = length
        self._basis = basis_by(words)

    @property
    def length(self):
        """The length of its words."""
        return self._length

    @property
    def basis(self):
        """Its one basis, descending."""
        return self._basis

    @property
    def dimension(self):
        """The number of the words of its basis."""
        return len(self._basis)

    def __eq__(self, other):
        return isinstance(other, Code) and self._length == other._length and self._basis == other._basis

    def __str__(self):
        return f"code of length {self._length}, dimension {len(self._basis)}"


def need_code(code):
    """Refuse what is no code."""
    if not isinstance(code, Code):
        raise InvalidCode("a code is needed")


def need_codes(one, other):
    """Refuse what is no code, and two codes of unlike lengths."""
    need_code(one)
    need_code(other)
    need_one_length(one, other)


def need_one_length(one, other):
    """Refuse two codes of unlike lengths."""
    if one.length != other.length:
        raise InvalidOperation("two codes of one length are needed")


def need_own(code):
    """Refuse what is no own code."""
    if not isinstance(code, Code) or not is_own(code):
        raise InvalidCode("an own code is needed")


def need_own_codes(one, other):
    """Refuse what is no own code, and two of unlike lengths."""
    need_own(one)
    need_own(other)
    need_one_length(one, other)


def need_own_length(length):
    """Refuse what is no length of own codes."""
    need_even(length, 2, MOST_LENGTH)


def need_at_most(many, limit):
    """Refuse a number above the limit."""
    if many > limit:
        raise TooMany(limit)


def need_lot(length, lot):
    """Refuse what is no ascending tuple of one place or more of the length."""
    if not is_ascending_below(lot, length) or not lot:
        raise InvalidOperation("an ascending tuple of places of the code is needed")


def dual(code):
    """The code of all words that are even with each word of the code."""
    need_code(code)
    return Code(code.length, checks_by(code.length, code.basis))


def even_part(code):
    """The code of the words of even weight."""
    need_code(code)
    every = (1 << code.length) - 1
    return Code(code.length, tuple(even_with(code.basis, every)))


def is_own(code):
    """Whether the code is its dual."""
    need_code(code)
    return checks_by(code.length, code.basis) == code.basis


def has_word(code, value):
    """Whether the value is a word of the code."""
    need_code(code)
    return is_word_of(code.length, value) and remainder_by(code.basis, value) == 0


def does_hold(one, other):
    """Whether each word of the other code is in the one."""
    need_codes(one, other)
    return holds(one.basis, other.basis)


def own_or_shown(code):
    """Whether the code is own, or else what shows that it is not."""
    need_code(code)
    pair = odd_pair(code.basis)
    if pair is not None:
        return "odd", pair[0], pair[1]
    for word in checks_by(code.length, code.basis):
        if remainder_by(code.basis, word):
            return "outside", word
    return ("own",)


def is_own_or_shown(code, value):
    """Whether the value is a right answer of own_or_shown."""
    need_code(code)
    if not isinstance(value, tuple) or not value:
        return False
    kind, *told = value
    if kind == "own":
        return not told and is_own(code)
    if kind == "odd":
        return len(told) == 2 and is_odd_pair(code, told[0], told[1])
    return kind == "outside" and len(told) == 1 and is_outside(code, told[0])


def is_odd_pair(code, one, other):
    """Whether both are words of the code, and their product is odd."""
    return has_word(code, one) and has_word(code, other) and product_bit(one, other) == 1


def is_outside(code, word):
    """Whether this is a word that is not in the code, and even with all of its words."""
    if not is_word_of(code.length, word) or remainder_by(code.basis, word) == 0:
        return False
    return all([product_bit(word, row) == 0 for row in code.basis])


def words_of(code):
    """The ascending tuple of all words of the code."""
    need_code(code)
    need_at_most(code.dimension, MOST_LISTED)
    return span_by(code.basis)


def cut(word, lot):
    """The word cut to the lot: its places, in their sequence, become the places from 0 on."""
    return word_at([at for at, place in enumerate(lot) if word >> place & 1])


def part_on(code, lot):
    """The code of the words that are 0 at all places beside the lot, cut to it."""
    need_code(code)
    need_lot(code.length, lot)
    return Code(len(lot), tuple([cut(word, lot) for word in within_by(code.length, code.basis, lot)]))


def trace_on(code, lot):
    """The code of all words, cut to the lot."""
    need_code(code)
    need_lot(code.length, lot)
    return Code(len(lot), tuple([cut(word, lot) for word in code.basis]))
