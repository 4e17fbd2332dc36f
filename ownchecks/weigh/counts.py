"""Counts: how many words of each weight a code, its dual, or a coset has."""

from math import comb
from ownchecks.base.linear import checks_by, is_from_to, ones_in, product_bit, span_by
from ownchecks.base.spans import need_length, need_number, need_word
from ownchecks.code.codes import dual, need_at_most, need_code
from ownchecks.errors import InvalidCounts

MOST_WORDS = 4096
LEAST_COUNTS = 2
MOST_COUNTS = 25
# the greatest integer of sixty digits
MOST_COUNT = 999999999999999999999999999999999999999999999999999999999999


def need_counts(counts):
    """Refuse what is no tuple of counts."""
    if not isinstance(counts, tuple) or not is_from_to(len(counts), LEAST_COUNTS, MOST_COUNTS):
        raise InvalidCounts(f"a tuple of {LEAST_COUNTS} to {MOST_COUNTS} integers is needed")
    for number in counts:
        if not is_from_to(number, -MOST_COUNT, MOST_COUNT):
            raise InvalidCounts("each count is an integer of at most sixty digits")


def sign_sum(length, weight, other):
    """Of a word of the weight `other`: how many words of the weight are even with it, less how many are not."""
    total = 0
    # `both` is at how many places both words have 1
    for both in range(weight + 1):
        many = comb(other, both) * comb(length - other, weight - both)
        total += -many if both & 1 else many
    return total


def transformed_by(counts):
    """The transformed row."""
    length = len(counts) - 1
    return [sum([number * sign_sum(length, weight, other) for other, number in enumerate(counts)])
            for weight in range(length + 1)]


def tally(length, words):
    """How many of the words have each weight."""
    row = [0] * (length + 1)
    for word in words:
        row[ones_in(word)] += 1
    return tuple(row)


def signs(length, weight, other):
    """Of a word of the weight `other`: how many words of the weight are even with it, less how many are not."""
    need_length(length)
    need_number(weight, 0, length)
    need_number(other, 0, length)
    return sign_sum(length, weight, other)


def counts_of(code):
    """The counts of the code."""
    return coset_counts(code, 0)


def dual_counts(code):
    """The counts of the dual of the code."""
    return coset_counts(dual(code), 0)


def coset_counts(code, word):
    """The counts of the coset of the word."""
    need_code(code)
    need_word(code.length, word)
    # whichever has fewer words is gone through, the code or its dual
    if code.dimension * 2 <= code.length:
        return tally(code.length, [word ^ one for one in span_by(code.basis)])
    checks = span_by(checks_by(code.length, code.basis))
    even = tally(code.length, [check for check in checks if not product_bit(check, word)])
    odd = tally(code.length, [check for check in checks if product_bit(check, word)])
    row = transformed_by([even[weight] - odd[weight] for weight in range(code.length + 1)])
    return tuple([number // len(checks) for number in row])


def transformed(counts):
    """The transformed row of any counts."""
    need_counts(counts)
    return tuple(transformed_by(counts))


def least_weight(code):
    """The least weight of words other than 0, None if there are none."""
    row = counts_of(code)
    return min([weight for weight in range(1, code.length + 1) if row[weight]], default=None)


def words_of_weight(code, weight):
    """The ascending tuple of the words of this weight."""
    need_code(code)
    need_number(weight, 0, code.length)
    need_at_most(1 << code.dimension, MOST_WORDS)
    return tuple([word for word in span_by(code.basis) if ones_in(word) == weight])


def zero_lots(counts, many):
    """The number of pairs of a word and of so many places at all of which it has 0."""
    need_counts(counts)
    length = len(counts) - 1
    need_number(many, 0, length)
    return sum([comb(length - weight, many) * number for weight, number in enumerate(counts)])


def dual_or_weight(counts):
    """The counts of a dual, or else what shows that the counts are of no code."""
    need_counts(counts)
    total = sum(counts)
    if not is_power_of_two(total):
        return ("sum",)
    row = transformed_by(counts)
    for weight, number in enumerate(row):
        if number % total:
            return "part", weight
        if number < 0:
            return "below", weight
    return "dual", tuple([number // total for number in row])


def is_power_of_two(number):
    """Whether the number is 1, 2, 4 and so on."""
    return number > 0 and number & number - 1 == 0
