"""Codes by fours: own codes in which each weight is divisible by 4, their neighbours and families."""

from ownchecks.base.linear import is_word_of, ones_in, product_bit, remainder_by
from ownchecks.base.spans import binomial, need_length, need_number, need_word
from ownchecks.code.codes import Code, need_at_most, need_one_length, need_own
from ownchecks.errors import InvalidCode, InvalidOperation, Refused
from ownchecks.near.neighbours import MOST_LENGTH, distance_by, is_own_of, neighbour_by, neighbour_words, neighbours_by
from ownchecks.near.neighbours import way

MOST_DISTANCE = 11
EIGHT_WORDS = (15, 51, 85, 150)


def is_four(word):
    """Whether the weight of the word is divisible by 4."""
    return ones_in(word) & 3 == 0


def has_fours_alone(code):
    """Whether the own code is by fours: it is if the words of its basis are."""
    return all([is_four(row) for row in code.basis])


def half_by(basis):
    """Words that span the half of an own code that is told by its basis."""
    odd = [row for row in basis if not is_four(row)]
    # half the weight, taken even or odd, adds up as words do
    return [row for row in basis if is_four(row)] + [odd[0] ^ row for row in odd[1:]]


def need_by_fours(code):
    """Refuse what is no own code by fours."""
    need_own(code)
    if not has_fours_alone(code):
        raise InvalidCode("a code by fours is needed")


def need_two_by_fours(one, other):
    """Refuse what is no own code by fours, and two of unlike lengths."""
    need_by_fours(one)
    need_by_fours(other)
    need_one_length(one, other)


def is_by_fours(code):
    """Whether the weights of all words are divisible by 4."""
    need_own(code)
    return has_fours_alone(code)


def fours_or_word(code):
    """That the code is by fours, or a word that shows that it is not."""
    need_own(code)
    for row in code.basis:
        if not is_four(row):
            return "word", row
    return ("fours",)


def is_fours_or_word(code, value):
    """Whether the value is a right answer of fours_or_word."""
    need_own(code)
    if not isinstance(value, tuple) or not value:
        return False
    kind, *told = value
    if kind == "fours":
        return not told and has_fours_alone(code)
    return kind == "word" and len(told) == 1 and is_other_word(code, told[0])


def is_other_word(code, value):
    """Whether this is a word of the code whose weight is not divisible by 4."""
    return is_word_of(code.length, value) and remainder_by(code.basis, value) == 0 and not is_four(value)


def half(code):
    """The code of the words whose weights are divisible by 4."""
    need_own(code)
    return Code(code.length, tuple(half_by(code.basis)))


def count_by_fours(length):
    """How many own codes by fours there are."""
    need_length(length)
    if length & 7:
        return 0
    many = 1
    for at in range(length // 2 - 1):
        many = many * ((1 << at) + 1)
    return many


def count_by_fours_at(length, distance):
    """How many codes by fours have the distance from one of them; 0 if there are none."""
    need_length(length)
    need_number(distance, 0, MOST_DISTANCE)
    if length & 7:
        return 0
    return binomial(length // 2 - 1, distance) << distance * (distance - 1) // 2


def eights(length):
    """The code by fours that has eights side by side."""
    need_length(length)
    if length & 7:
        raise Refused(("length",))
    return Code(length, tuple([word << first for first in range(0, length, 8) for word in EIGHT_WORDS]))


def fours_words(code):
    """The words that lead to neighbours by fours, one for each."""
    return [word for word in neighbour_words(code.length, code.basis) if is_four(word)]


def fours_neighbour(code, word):
    """The neighbour by fours of the coset of the word."""
    need_by_fours(code)
    need_word(code.length, word)
    if ones_in(word) & 1 or remainder_by(code.basis, word) == 0:
        raise InvalidOperation("an even word that is not in the code is needed")
    if not is_four(word):
        # one word of the basis at least is not even with the word, and brings its weight to one divisible by 4
        word ^= [row for row in code.basis if product_bit(row, word)][0]
    return Code(code.length, neighbour_by(code.basis, word))


def neighbours_by_fours(code):
    """The tuple of all neighbours by fours, ascending by their bases."""
    need_by_fours(code)
    need_at_most(code.length, MOST_LENGTH)
    return neighbours_by(code, fours_words(code))


def are_one_family(one, other):
    """Whether both codes are in one family."""
    need_two_by_fours(one, other)
    return distance_by(one.basis, other.basis) & 1 == 0


def way_by_fours(one, other):
    """A shortest way from the one to the other, by codes by fours."""
    need_two_by_fours(one, other)
    # each step of this way is a neighbour by a word of the other code
    return way(one, other)


def is_way_by_fours(one, other, value):
    """Whether the value is a way from the one to the other, by codes by fours."""
    need_two_by_fours(one, other)
    if not isinstance(value, tuple) or not value:
        return False
    if not all([is_own_of(one.length, step) and has_fours_alone(step) for step in value]):
        return False
    steps = [distance_by(value[at].basis, value[at + 1].basis) for at in range(len(value) - 1)]
    return value[0] == one and value[-1] == other and all([step == 1 for step in steps])
