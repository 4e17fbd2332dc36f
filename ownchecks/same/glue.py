"""Glue: what the words of an own code are put together from, when its places are parted into lots."""

from ownchecks.base.linear import added, basis_by, is_integer, is_word_of, odd_pair, parts_by, product_bit
from ownchecks.base.linear import remainder_by, within_by, word_at
from ownchecks.base.spans import MOST_WORDS, need_word
from ownchecks.code.codes import Code, need_own, need_own_length
from ownchecks.errors import InvalidOperation, Refused
from ownchecks.same.parts import need_lot_and_rest, need_lots


def need_all_lots(length, lots):
    """Refuse what is no tuple of two lots or more that part the places of the length."""
    need_lots(lots)
    if len(lots) < 2 or sum([len(lot) for lot in lots]) != length:
        raise InvalidOperation("at least two lots of all places are needed")


def need_word_within(code, lot, word):
    """Refuse what is no own code, no lot that leaves places beside it, and no word within the lot."""
    need_lot_and_rest(code, lot)
    need_word(code.length, word)
    if not is_within(word, lot):
        raise InvalidOperation("a word within the lot is needed")


def need_told_words(length, value):
    """Refuse what is no tuple of few enough words of the length."""
    if not isinstance(value, tuple) or len(value) > MOST_WORDS:
        raise InvalidOperation(f"a tuple of at most {MOST_WORDS} words is needed")
    if not all([is_word_of(length, word) for word in value]):
        raise InvalidOperation(f"words of the length {length} are needed")


def need_to_put(length, lots, within, glued):
    """Refuse the first of these from which nothing can be put together."""
    need_own_length(length)
    need_all_lots(length, lots)
    need_told_words(length, within)
    for word in within:
        if not any([is_within(word, lot) for lot in lots]):
            raise InvalidOperation("each word has ones in one lot only")
    need_told_words(length, glued)


def is_within(word, lot):
    """Whether the word has ones only in the lot."""
    places = word_at(lot)
    return word | places == places


def parts_span_by(code, lots):
    """The basis of the parts' span."""
    return basis_by([word for lot in lots for word in within_by(code.length, code.basis, lot)])


def glue_by(code, lots):
    """The basis of the glue."""
    rows = parts_span_by(code, lots)
    return basis_by([remainder_by(rows, word) for word in code.basis])


def mate_by(basis, lot, word):
    """A mate of a word within the lot, or None if there is none."""
    places = word_at(lot)
    indices = parts_by([row & places for row in basis], word)
    return None if indices is None else word ^ added([basis[index] for index in indices])


def odd_part(code, lot, word):
    """A word of the code within the lot that has an odd product with the word, which has no mate."""
    return [row for row in within_by(code.length, code.basis, lot) if product_bit(row, word)][0]


def parts_span(code, lots):
    """The basis of the span of all words of the code within one lot each."""
    need_own(code)
    need_all_lots(code.length, lots)
    return parts_span_by(code, lots)


def glue(code, lots):
    """The basis of the remainders of all words of the code by the parts' span."""
    need_own(code)
    need_all_lots(code.length, lots)
    return glue_by(code, lots)


def glue_dimension(code, lots):
    """The number of the words of the basis of the glue."""
    return len(glue(code, lots))


def parted_word(code, lots, word):
    """The word of the parts' span and the glue word whose sum is this word of the code."""
    need_own(code)
    need_all_lots(code.length, lots)
    need_word(code.length, word)
    if remainder_by(code.basis, word):
        raise InvalidOperation("a word of the code is needed")
    rest = remainder_by(parts_span_by(code, lots), word)
    return word ^ rest, rest


def mate_or_odd(code, lot, word):
    """A mate of a word within the lot, or else a word of the code within the lot with an odd product."""
    need_word_within(code, lot, word)
    mate = mate_by(code.basis, lot, word)
    return ("odd", odd_part(code, lot, word)) if mate is None else ("mate", mate)


def is_mate_or_odd(code, lot, word, value):
    """Whether the value is a right answer of mate_or_odd."""
    need_word_within(code, lot, word)
    if not isinstance(value, tuple) or len(value) != 2:
        return False
    kind, told = value
    if not is_word_of(code.length, told):
        return False
    if kind == "mate":
        return told & word_at(lot) == 0 and remainder_by(code.basis, word ^ told) == 0
    is_part = is_within(told, lot) and remainder_by(code.basis, told) == 0
    return kind == "odd" and is_part and product_bit(told, word) == 1


def least_mate(code, lot, word):
    """The least mate of a word within the lot."""
    need_word_within(code, lot, word)
    mate = mate_by(code.basis, lot, word)
    if mate is None:
        raise Refused(("odd", odd_part(code, lot, word)))
    rest = [place for place in range(code.length) if place not in lot]
    return remainder_by(within_by(code.length, code.basis, rest), mate)


def put_together(length, lots, within, glued):
    """The own code that the words span, or two of them with an odd product, or that they are too few."""
    need_to_put(length, lots, within, glued)
    pair = odd_pair(within + glued)
    if pair is not None:
        return "odd", pair[0], pair[1]
    basis = basis_by(within + glued)
    if len(basis) < length // 2:
        return "few", len(basis)
    return "own", Code(length, basis)


def is_put_together(length, lots, within, glued, value):
    """Whether the value is a right answer of put_together."""
    need_to_put(length, lots, within, glued)
    if not isinstance(value, tuple) or not value:
        return False
    words = within + glued
    kind, *told = value
    if kind == "odd":
        return len(told) == 2 and is_odd_pair_of(words, told[0], told[1])
    if len(told) != 1 or odd_pair(words) is not None:
        return False
    basis = basis_by(words)
    if kind == "few":
        return is_integer(told[0]) and told[0] == len(basis) < length // 2
    return kind == "own" and len(basis) == length // 2 and told[0] == Code(length, basis)


def is_odd_pair_of(words, one, other):
    """Whether both are told words, and their product is odd."""
    if not is_integer(one) or not is_integer(other):
        return False
    return one in words and other in words and product_bit(one, other) == 1
