"""Own rows: what counts of own codes, and counts of codes by fours, are sums of.

A *step* tells of which rows a function speaks: 2 of the rows j, 4 of the rows by fours. Rows go by the powers of y.
"""

from ownchecks.base.linear import is_from_to
from ownchecks.base.spans import need_length, need_number
from ownchecks.code.codes import need_own, need_own_length
from ownchecks.errors import InvalidNumber, InvalidOperation
from ownchecks.weigh.counts import MOST_COUNT, counts_of, need_counts, transformed_by

# by the step: 1 + y y, and 1 + 14 y ** 4 + y ** 8
FIRST = {2: (1, 0, 1), 4: (1, 0, 0, 0, 14, 0, 0, 0, 1)}
# by the step: y y (1 - y y) ** 2, and y ** 4 (1 - y ** 4) ** 4
SECOND = {2: (0, 0, 1, 0, -2, 0, 1), 4: (0, 0, 0, 0, 1, 0, 0, 0, -4, 0, 0, 0, 6, 0, 0, 0, -4, 0, 0, 0, 1)}
# by the step: how much of the length each one of the second polynomial leaves less to the first one
BLOCK = {2: 8, 4: 24}


def need_four_length(length):
    """Refuse what is no length of codes by fours."""
    need_length(length)
    if length & 7:
        raise InvalidNumber(length)


def need_row(length, step, j):
    """Refuse what is no index of a row."""
    need_number(j, 0, length // BLOCK[step])


def need_for_each_row(length, step, value):
    """Refuse what is no tuple of an integer for each row."""
    if not isinstance(value, tuple) or len(value) != length // BLOCK[step] + 1:
        raise InvalidOperation("a tuple of one integer for each row is needed")
    if not all([is_from_to(number, -MOST_COUNT, MOST_COUNT) for number in value]):
        raise InvalidOperation("each integer has at most sixty digits")


def multiplied(row, other):
    """The product of two polynomials."""
    product = [0] * (len(row) + len(other) - 1)
    for at, number in enumerate(row):
        for then, part in enumerate(other):
            product[at + then] += number * part
    return product


def row_at(length, step, j):
    """The row with the index j; its first number other than 0 is the 1 at the place step * j."""
    row = [1]
    for _ in range((length - BLOCK[step] * j) // (len(FIRST[step]) - 1)):
        row = multiplied(row, FIRST[step])
    for _ in range(j):
        row = multiplied(row, SECOND[step])
    return tuple(row) + (0,) * (length + 1 - len(row))


def rows_by(length, step):
    """All rows of the length."""
    return [row_at(length, step, j) for j in range(length // BLOCK[step] + 1)]


def mixed(rows, parts):
    """The sum of the rows, each times its part."""
    return tuple([sum([part * number for part, number in zip(parts, column)]) for column in zip(*rows)])


def parts_by(rows, step, light):
    """The parts of the own row that has these numbers at 0, step, 2 * step .."""
    parts = []
    for j, number in enumerate(light):
        # the row j has 1 there, and those behind it have 0
        ahead = sum([part * row[step * j] for part, row in zip(parts, rows)])
        parts.append(number - ahead)
    return tuple(parts)


def by_light(length, step, light):
    """The own row that has these numbers at 0, step, 2 * step .."""
    rows = rows_by(length, step)
    return mixed(rows, parts_by(rows, step, light))


def barest_by(length, step):
    """The own row that has 1 at 0, and 0 at step, 2 * step .."""
    return by_light(length, step, (1,) + (0,) * (length // BLOCK[step]))


def parts_or_place(counts, step, name):
    """The parts of an own row, or else the first place that shows that it is none."""
    length = len(counts) - 1
    for place, number in enumerate(counts):
        if place % step and number:
            return name, place
    for place, number in enumerate(transformed_by(counts)):
        if number != counts[place] << length // 2:
            return "unlike", place
    rows = rows_by(length, step)
    return "parts", parts_by(rows, step, [counts[step * j] for j in range(len(rows))])


def two_row(length, j):
    """The row j."""
    need_own_length(length)
    need_row(length, 2, j)
    return row_at(length, 2, j)


def four_row(length, j):
    """The row by fours j."""
    need_four_length(length)
    need_row(length, 4, j)
    return row_at(length, 4, j)


def row_by(length, parts):
    """The sum of the rows, each times its part."""
    need_own_length(length)
    need_for_each_row(length, 2, parts)
    return mixed(rows_by(length, 2), parts)


def four_row_by(length, parts):
    """The sum of the rows by fours, each times its part."""
    need_four_length(length)
    need_for_each_row(length, 4, parts)
    return mixed(rows_by(length, 4), parts)


def parts_or_weight(counts):
    """The parts of counts that are an own row, or else what shows that they are none."""
    need_counts(counts)
    if not len(counts) & 1:
        raise InvalidOperation("counts of an even length are needed")
    return parts_or_place(counts, 2, "odd")


def four_parts_or_weight(counts):
    """The parts by fours of counts, or else what shows that they have none."""
    need_counts(counts)
    if len(counts) - 1 & 7:
        raise InvalidOperation("counts of a length divisible by 8 are needed")
    return parts_or_place(counts, 4, "weight")


def parts_of(code):
    """The parts of the counts of an own code."""
    need_own(code)
    return parts_or_place(counts_of(code), 2, "odd")[1]


def row_by_light(length, light):
    """The own row that has these numbers at 0, 2, 4 and so on."""
    need_own_length(length)
    need_for_each_row(length, 2, light)
    return by_light(length, 2, light)


def four_row_by_light(length, light):
    """The own row by fours that has these numbers at 0, 4, 8 and so on."""
    need_four_length(length)
    need_for_each_row(length, 4, light)
    return by_light(length, 4, light)


def barest(length):
    """The own row that has 1 at 0, and 0 at all others of the places that tell it."""
    need_own_length(length)
    return barest_by(length, 2)


def four_barest(length):
    """The own row by fours that has 1 at 0, and 0 at all others of the places that tell it."""
    need_four_length(length)
    return barest_by(length, 4)
