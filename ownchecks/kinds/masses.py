"""Kinds of own codes, their masses, and when a list of codes has all of them."""

from ownchecks.base.linear import is_from_to, is_integer
from ownchecks.base.spans import need_even
from ownchecks.code.codes import Code, need_at_most, need_one_length, need_own
from ownchecks.errors import InvalidOperation, Refused
from ownchecks.near.every import code_by, count_of
from ownchecks.near.neighbours import is_own_of, neighbours
from ownchecks.same.exchanges import alike_count, exchange_between, is_exchange_of, led_basis
from ownchecks.same.fours import fingerprint
from ownchecks.weigh.counts import counts_of

MOST_LENGTH = 14
MOST_CODES = 8


def need_list(value):
    """Refuse what is no list."""
    if not is_list(value):
        raise InvalidOperation(f"a tuple of 1 to {MOST_CODES} own codes of one length is needed")


def need_unlike(codes):
    """Refuse a list in which codes are alike."""
    pair = first_alike(codes)
    if pair is not None:
        raise Refused(("alike", pair[0], pair[1]))


def need_kinds_length(length):
    """Refuse what is no length of lists."""
    need_even(length, 2, MOST_LENGTH)


def prints_of(codes):
    """The fingerprints: so short codes are alike just if these are equal."""
    return [fingerprint(code) for code in codes]


def first_alike(codes):
    """The first pair of indices of codes that are alike, or None."""
    prints = prints_of(codes)
    for one in range(len(codes)):
        for other in range(one + 1, len(codes)):
            if prints[one] == prints[other]:
                return one, other
    return None


def has_all_kinds(codes, masses):
    """Whether unlike codes with these masses are of all kinds."""
    return sum(masses) == count_of(codes[0].length)


def lacked(codes):
    """A neighbour of one of the codes that is alike to none of them."""
    prints = prints_of(codes)
    for code in codes:
        for one in neighbours(code):
            if fingerprint(one) not in prints:
                return one
    return None


def is_list(value):
    """Whether the value is a list."""
    if not isinstance(value, tuple) or not is_from_to(len(value), 1, MOST_CODES):
        return False
    if not isinstance(value[0], Code) or value[0].length > MOST_LENGTH:
        return False
    return all([is_own_of(value[0].length, code) for code in value])


def mass_of(code):
    """How many codes are of the kind of the code."""
    need_own(code)
    need_at_most(code.length, MOST_LENGTH)
    return alike_count(code)


def unlike_or_alike(codes):
    """That no two codes of the list are alike, or two of them, with an exchange that leads the one to the other."""
    need_list(codes)
    pair = first_alike(codes)
    if pair is None:
        return ("unlike",)
    one, other = pair
    return "alike", one, other, exchange_between(codes[one], codes[other])


def is_unlike_or_alike(codes, value):
    """Whether the value is a right answer of unlike_or_alike."""
    need_list(codes)
    if not isinstance(value, tuple) or not value:
        return False
    kind, *told = value
    if kind == "unlike":
        return not told and first_alike(codes) is None
    return kind == "alike" and len(told) == 3 and is_alike(codes, told[0], told[1], told[2])


def is_alike(codes, one, other, exchange):
    """Whether these are ascending indices of codes, and an exchange that leads the one to the other."""
    if not is_from_to(other, 0, len(codes) - 1) or not is_from_to(one, 0, other - 1):
        return False
    if not is_exchange_of(codes[one].length, exchange):
        return False
    return led_basis(exchange, codes[one].basis) == codes[other].basis


def masses_of(codes):
    """The masses of the codes of the list, in their sequence."""
    need_list(codes)
    need_unlike(codes)
    return tuple([alike_count(code) for code in codes])


def complete_or_lacks(codes):
    """The masses of a list that has all kinds, or else a code that is alike to none in it."""
    masses = masses_of(codes)
    if has_all_kinds(codes, masses):
        return "complete", masses
    return "lacks", lacked(codes)


def is_complete_or_lacks(codes, value):
    """Whether the value is a right answer of complete_or_lacks."""
    masses = masses_of(codes)
    if not isinstance(value, tuple) or len(value) != 2:
        return False
    kind, told = value
    if kind == "complete":
        return has_all_kinds(codes, masses) and is_row(masses, told)
    return kind == "lacks" and is_own_of(codes[0].length, told) and fingerprint(told) not in prints_of(codes)


def is_row(row, value):
    """Whether the value is this tuple of integers."""
    # True is equal to 1, but no integer
    return isinstance(value, tuple) and value == row and all([is_integer(number) for number in value])


def weighed_counts(codes):
    """For each weight the sum of the numbers of words of the codes, each times the mass of its code."""
    masses = masses_of(codes)
    rows = [counts_of(code) for code in codes]
    return tuple([sum([mass * row[weight] for mass, row in zip(masses, rows)])
                  for weight in range(codes[0].length + 1)])


def kind_in(codes, code):
    """The least index of a code of the list that is alike to the code, or None."""
    need_list(codes)
    need_own(code)
    need_one_length(codes[0], code)
    prints = prints_of(codes)
    wanted = fingerprint(code)
    return prints.index(wanted) if wanted in prints else None


def kinds_of(length):
    """A list of unlike codes of the length that has all kinds."""
    need_kinds_length(length)
    codes = (code_by(length, 0),)
    answer, told = complete_or_lacks(codes)
    while answer == "lacks":
        codes = codes + (told,)
        answer, told = complete_or_lacks(codes)
    return codes


def is_kinds_of(length, value):
    """Whether the value is a list of unlike codes of the length that has all kinds."""
    need_kinds_length(length)
    if not is_list(value) or value[0].length != length or first_alike(value) is not None:
        return False
    return has_all_kinds(value, masses_of(value))
