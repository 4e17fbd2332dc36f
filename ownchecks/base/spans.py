"""Words, and spans of words."""

from ownchecks.base.linear import added, basis_by, check_at, checks_by, free_by, head_place
from ownchecks.base.linear import is_ascending_below, is_from_to, is_word_of, meet_by, ones_in
from ownchecks.base.linear import parts_by, places_in, product_bit, remainder_by, span_by, word_at
from ownchecks.errors import InvalidNumber, InvalidOperation, InvalidWord, TooMany

MOST_LENGTH = 24
MOST_WORDS = 64
MOST_SPANNED = 12


def need_number(given, least, most):
    """Refuse what is no integer from least to most."""
    if not is_from_to(given, least, most):
        raise InvalidNumber(given)


def need_even(given, least, most):
    """Refuse what is no even integer from least to most."""
    need_number(given, least, most)
    if given & 1:
        raise InvalidNumber(given)


def need_length(length):
    """Refuse what is no length."""
    need_number(length, 1, MOST_LENGTH)


def need_word(length, word):
    """Refuse what is no word of the length."""
    if not is_word_of(length, word):
        raise InvalidWord(f"a word of the length {length} is needed")


def need_words(length, words):
    """Refuse what is no tuple of few enough words of the length."""
    if not isinstance(words, tuple) or len(words) > MOST_WORDS:
        raise InvalidWord(f"a tuple of at most {MOST_WORDS} words is needed")
    for word in words:
        need_word(length, word)


def need_span(length, words):
    """Refuse the first of the two that does not tell a span."""
    need_length(length)
    need_words(length, words)


def is_word(length, value):
    """Whether the value is a word of the length."""
    need_length(length)
    return is_word_of(length, value)


def weight(word):
    """How many ones the word has."""
    need_word(MOST_LENGTH, word)
    return ones_in(word)


def product(one, other):
    """1 if both words have 1 at an odd number of places, else 0."""
    need_word(MOST_LENGTH, one)
    need_word(MOST_LENGTH, other)
    return product_bit(one, other)


def places_of(word):
    """The ascending tuple of the places at which the word has 1."""
    need_word(MOST_LENGTH, word)
    return places_in(word)


def word_of(places):
    """The word with 1 just at these places."""
    if not is_ascending_below(places, MOST_LENGTH):
        raise InvalidOperation("an ascending tuple of places is needed")
    return word_at(places)


def basis_of(length, words):
    """The one basis of the span of the words, descending."""
    need_span(length, words)
    return basis_by(words)


def free_places(length, words):
    """The ascending tuple of the places that are no heads of the basis."""
    need_span(length, words)
    return free_by(length, basis_by(words))


def remainder_of(length, words, word):
    """The remainder of the word by the span."""
    need_span(length, words)
    need_word(length, word)
    return remainder_by(basis_by(words), word)


def span_of(length, words):
    """The ascending tuple of all words of the span."""
    need_span(length, words)
    basis = basis_by(words)
    if len(basis) > MOST_SPANNED:
        raise TooMany(MOST_SPANNED)
    return span_by(basis)


def parts_or_check(length, words, word):
    """Told words whose sum is the word, or a check that shows that there are none."""
    need_span(length, words)
    need_word(length, word)
    indices = parts_by(words, word)
    if indices is None:
        basis = basis_by(words)
        # the remainder has 0 at all heads, so its product with the check of its head is 1
        return "check", check_at(basis, head_place(remainder_by(basis, word)))
    return "parts", indices


def is_parts_or_check(length, words, word, value):
    """Whether the value is a right answer of parts_or_check."""
    need_span(length, words)
    need_word(length, word)
    if not isinstance(value, tuple) or len(value) != 2:
        return False
    kind, told = value
    if kind == "parts":
        return is_ascending_below(told, len(words)) and added([words[index] for index in told]) == word
    return kind == "check" and is_word_of(length, told) and does_check(words, word, told)


def does_check(words, word, check):
    """Whether the check is even with all words, and not with this one."""
    return product_bit(check, word) == 1 and all([product_bit(check, told) == 0 for told in words])


def checks_of(length, words):
    """The basis of the checks of the words."""
    need_span(length, words)
    return checks_by(length, basis_by(words))


def sum_of(length, words, others):
    """The basis of the sum of both spans."""
    need_span(length, words)
    need_words(length, others)
    return basis_by(words + others)


def meet_of(length, words, others):
    """The basis of the meet of both spans."""
    need_span(length, words)
    need_words(length, others)
    return meet_by(length, basis_by(words), basis_by(others))


def binomial(many, few):
    """How many spans with `few` words in the basis lie in one with `many` words."""
    need_number(many, 0, MOST_LENGTH)
    need_number(few, 0, MOST_LENGTH)
    row = [1] + [0] * few
    for _ in range(many):
        row = [1] + [row[at - 1] + (row[at] << at) for at in range(1, few + 1)]
    return row[few]
