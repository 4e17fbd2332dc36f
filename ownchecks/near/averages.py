"""Words in the mean of all own codes, and codes that are clear of light words."""

from math import comb, gcd
from ownchecks.base.linear import ones_in
from ownchecks.base.spans import need_even, need_word
from ownchecks.code.codes import Code, need_at_most, need_own, need_own_length
from ownchecks.near.every import count_of
from ownchecks.near.neighbours import MOST_LENGTH, distance_by, is_own_of, neighbour_by, neighbour_words
from ownchecks.weigh.counts import counts_of


def need_bound(length, bound):
    """Refuse what is no bound for codes of the length."""
    need_even(bound, 2, length)


def need_walk(code, bound):
    """Refuse what is no own code, no bound, and too long codes."""
    need_own(code)
    need_bound(code.length, bound)
    need_at_most(code.length, MOST_LENGTH)


def lighter_by(code, bound):
    """How many words lighter than the bound the own code has."""
    return sum(counts_of(code)[2:bound])


def lighter_words(length, bound):
    """How many words of even weights from 2 to the bound less 2 there are."""
    return sum([comb(length, weight) for weight in range(2, bound, 2)])


def with_fewer(code, bound):
    """A neighbour with fewer lighter words, or None."""
    many = lighter_by(code, bound)
    for word in neighbour_words(code.length, code.basis):
        one = Code(code.length, neighbour_by(code.basis, word))
        if lighter_by(one, bound) < many:
            return one
    return None


def mean_of(length, weight):
    """The mean number of words of the weight in an own code, as top and bottom in lowest terms."""
    if weight in (0, length):
        return 1, 1
    if weight & 1:
        return 0, 1
    top = comb(length, weight)
    bottom = (1 << length // 2 - 1) + 1
    shared = gcd(top, bottom)
    return top // shared, bottom // shared


def count_with(length, word):
    """In how many own codes of the length the word is."""
    need_own_length(length)
    need_word(length, word)
    many = ones_in(word)
    if many & 1:
        return 0
    # all are in the company of 0 and all; of another word as many as there are two places shorter
    return count_of(length) if many in (0, length) else count_of(length - 2)


def mean_counts(length):
    """For each weight the mean number of words in an own code, as top and bottom in lowest terms."""
    need_own_length(length)
    return tuple([mean_of(length, weight) for weight in range(length + 1)])


def lighter(code, bound):
    """How many lighter words the code has."""
    need_own(code)
    need_bound(code.length, bound)
    return lighter_by(code, bound)


def lighter_in_all(length, bound):
    """How many lighter words there are in all."""
    need_own_length(length)
    need_bound(length, bound)
    return lighter_words(length, bound)


def does_clear(length, bound):
    """Whether the lighter words are so few that each code with some has a neighbour with fewer."""
    return lighter_in_all(length, bound) < (1 << length // 2 - 1) + 1


def neighbour_sum(code, bound):
    """How many lighter words all neighbours have together."""
    many = lighter(code, bound)
    # a lighter word of the code is in all neighbours by words that are even with it, each other one in just one
    company = (1 << code.dimension - 1) - 2
    return company * many + lighter_words(code.length, bound) - many


def clearing(code, bound):
    """A walk to fewer and fewer lighter words, and whether it ends in a clear code or is stuck."""
    need_walk(code, bound)
    steps = [code]
    while lighter_by(steps[-1], bound):
        one = with_fewer(steps[-1], bound)
        if one is None:
            return "stuck", tuple(steps)
        steps.append(one)
    return "clear", tuple(steps)


def is_clearing(code, bound, value):
    """Whether the value is a right answer of clearing."""
    need_walk(code, bound)
    if not isinstance(value, tuple) or len(value) != 2:
        return False
    kind, steps = value
    if not is_walk(code, bound, steps):
        return False
    last = steps[-1]
    if lighter_by(last, bound) == 0:
        return kind == "clear"
    return kind == "stuck" and with_fewer(last, bound) is None


def is_walk(code, bound, value):
    """Whether the value is a walk from the code, by neighbours, to fewer and fewer lighter words."""
    if not isinstance(value, tuple) or not value or not all([is_own_of(code.length, one) for one in value]):
        return False
    numbers = [lighter_by(one, bound) for one in value]
    for at in range(len(value) - 1):
        if distance_by(value[at].basis, value[at + 1].basis) != 1 or numbers[at] <= numbers[at + 1]:
            return False
    return value[0] == code
