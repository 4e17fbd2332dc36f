"""Counts of shadows, as the parts of counts tell them, and the own codes beside a code."""

from ownchecks.base.linear import basis_by, is_integer
from ownchecks.code.codes import Code, need_own, need_own_length
from ownchecks.errors import Refused
from ownchecks.four.families import half_by
from ownchecks.four.shadows import least_shadow_by, need_not_by_fours, quarters_by
from ownchecks.same.parts import side_by_side
from ownchecks.weigh.counts import coset_counts
from ownchecks.weigh.two import mixed, multiplied, need_for_each_row

PAIR_BASIS = (3,)
# 1 - y ** 4, by the powers of y from 0 on
SHADE = (1, 0, 0, 0, -1)


def shade_row(length, j):
    """The numbers of y ** (n / 2 - 4 j) (1 - y ** 4) ** (2 j)."""
    row = (0,) * (length // 2 - 4 * j) + (1,)
    for _ in range(2 * j):
        row = multiplied(row, SHADE)
    return tuple(row) + (0,) * (length + 1 - len(row))


def told_by_parts(length, parts):
    """The counts that the parts tell, or the first weight at which these are none."""
    last = len(parts) - 1
    # all numbers are told times this one first, so that none is broken
    unit = 1 << 6 * last
    times = [(-part if j & 1 else part) << length // 2 + 6 * (last - j) for j, part in enumerate(parts)]
    numbers = mixed([shade_row(length, j) for j in range(len(parts))], times)
    for weight, number in enumerate(numbers):
        if number % unit or number < 0:
            return "weight", weight
    return "counts", tuple([number // unit for number in numbers])


def beside_by(length, basis):
    """The two codes of the half and of one of the quarters of the shadow, ascending by their bases."""
    rows = basis_by(half_by(basis))
    least = quarters_by(basis, rows)
    bases = sorted([basis_by(rows + (least[1],)), basis_by(rows + (least[3],))])
    return Code(length, bases[0]), Code(length, bases[1])


def shadow_counts(code):
    """The counts of the words of the shadow."""
    need_own(code)
    return coset_counts(code, least_shadow_by(code.basis))


def counts_or_weight(length, parts):
    """The counts of a shadow that the parts tell, or the first weight at which these are none."""
    need_own_length(length)
    need_for_each_row(length, 2, parts)
    return told_by_parts(length, parts)


def is_counts_or_weight(length, parts, value):
    """Whether the value is the answer of counts_or_weight."""
    need_own_length(length)
    need_for_each_row(length, 2, parts)
    if not isinstance(value, tuple) or value != told_by_parts(length, parts):
        return False
    kind, told = value
    numbers = told if kind == "counts" else (told,)
    # True is equal to 1, but no integer
    return all([is_integer(number) for number in numbers])


def beside(code):
    """The two codes beside the code, ascending by their bases."""
    need_own(code)
    if code.length & 3:
        raise Refused(("length",))
    need_not_by_fours(code)
    return beside_by(code.length, code.basis)


def raised(code):
    """The two codes by fours beside the code with pairs up to a length divisible by 8, ascending by their bases."""
    need_own(code)
    need_not_by_fours(code)
    pairs = (Code(2, PAIR_BASIS),) * ((-code.length & 7) // 2)
    longer = side_by_side((code,) + pairs)
    return beside_by(longer.length, longer.basis)
