"""Kinds of values, and words and spans reckoned from arguments that the callers have checked.

A basis is here always the one basis of its span: a descending tuple.
"""


def is_integer(value):
    """Whether the value is an integer; True and False are none."""
    return isinstance(value, int) and not isinstance(value, bool)


def is_from_to(value, least, most):
    """Whether the value is an integer from least to most."""
    return is_integer(value) and least <= value <= most


def is_word_of(length, value):
    """Whether the value is a word of the length."""
    return is_from_to(value, 0, (1 << length) - 1)


def is_ascending_below(value, limit):
    """Whether the value is an ascending tuple of integers from 0 to below the limit."""
    if not isinstance(value, tuple):
        return False
    least = 0
    for part in value:
        if not is_from_to(part, least, limit - 1):
            return False
        least = part + 1
    return True


def ones_in(word):
    """The weight of the word."""
    many = 0
    while word:
        # this takes away just the lowest one
        word &= word - 1
        many += 1
    return many


def product_bit(one, other):
    """The product of two words, 0 or 1."""
    return ones_in(one & other) & 1


def places_in(word):
    """The ascending tuple of the places with 1."""
    return tuple([place for place in range(word.bit_length()) if word >> place & 1])


def added(words):
    """The sum of all the words, without carries."""
    total = 0
    for word in words:
        total ^= word
    return total


def word_at(places):
    """The word with 1 just at these places."""
    return added([1 << place for place in places])


def head_place(word):
    """The highest place with 1."""
    return word.bit_length() - 1


def remainder_by(basis, word):
    """The remainder of the word by the span of the basis."""
    for row in basis:
        # the sum is the lesser one just if the word has 1 at the head of the row
        word = min(word, word ^ row)
    return word


def basis_by(words):
    """The one basis of the span of the words."""
    rows = []
    for word in words:
        rest = remainder_by(rows, word)
        if rest:
            head = head_place(rest)
            rows = [row ^ rest if row >> head & 1 else row for row in rows] + [rest]
    return tuple(sorted(rows, reverse=True))


def free_by(length, basis):
    """The ascending tuple of the places that are no heads."""
    heads = [head_place(row) for row in basis]
    return tuple([place for place in range(length) if place not in heads])


def span_by(basis):
    """The ascending tuple of all words of the span."""
    words = [0]
    for row in reversed(basis):
        words = words + [word ^ row for word in words]
    return tuple(words)


def check_at(basis, place):
    """The check that has 1 at this free place, and at no other free place."""
    return word_at([place] + [head_place(row) for row in basis if row >> place & 1])


def checks_by(length, basis):
    """The basis of the checks."""
    return basis_by([check_at(basis, place) for place in free_by(length, basis)])


def meet_by(length, one, other):
    """The basis of the meet of two spans that are told by their bases."""
    # the checks of the meet are the sum of the checks, and the other way round
    return checks_by(length, basis_by(checks_by(length, one) + checks_by(length, other)))


def within_by(length, basis, lot):
    """The basis of the words of the span that have ones only at the places of the lot."""
    return meet_by(length, basis, basis_by([1 << place for place in lot]))


def holds(basis, words):
    """Whether each of the words is in the span of the basis."""
    return all([remainder_by(basis, word) == 0 for word in words])


def odd_pair(words):
    """Two of the words, or one of them twice, with an odd product, or None if there are none such."""
    for one in words:
        for other in words:
            if product_bit(one, other):
                return one, other
    return None


def even_with(rows, word):
    """Words that span those words of the span of the rows that are even with the word."""
    odd = [row for row in rows if product_bit(row, word)]
    even = [row for row in rows if not product_bit(row, word)]
    return even + [odd[0] ^ row for row in odd[1:]]


def parts_by(words, word):
    """The indices of told words whose sum is the word, or None if there are none such."""
    rows = []
    for index, told in enumerate(words):
        rest, used = lowered(rows, told, 1 << index)
        if rest:
            rows.append((rest, used))
    rest, used = lowered(rows, word, 0)
    return None if rest else places_in(used)


def lowered(rows, word, used):
    """The word without ones at the heads of the rows, and the bits of all that was added to it.

    Each row is a pair of a word and of bits, and has 0 at the heads of the rows ahead.
    """
    for row, bits in rows:
        if word ^ row < word:
            word ^= row
            used ^= bits
    return word, used
