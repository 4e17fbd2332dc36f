"""Tables: how many neighbours of each kind, and how many codes at each distance, a code of each kind has."""

from ownchecks.base.spans import need_number
from ownchecks.code.codes import need_own_length
from ownchecks.errors import Refused
from ownchecks.kinds.masses import has_all_kinds, masses_of, need_list, prints_of
from ownchecks.near.neighbours import distance_by, is_own_of, neighbours
from ownchecks.same.fours import fingerprint

MOST_STEPS = 60


def need_all_kinds(codes):
    """Refuse what is no list, one in which codes are alike, and one that lacks a kind."""
    if not has_all_kinds(codes, masses_of(codes)):
        raise Refused(("lacks",))


def need_two_kinds(codes, one, other):
    """Refuse what is no list of all kinds, and what are no indices of its codes."""
    need_list(codes)
    need_number(one, 0, len(codes) - 1)
    need_number(other, 0, len(codes) - 1)
    need_all_kinds(codes)


def farthest(codes):
    """The greatest distance of codes of this length."""
    return codes[0].length // 2 - 1


def unit_table(many):
    """The table with 1 on its diagonal, and 0 elsewhere."""
    return [[1 if row == column else 0 for column in range(many)] for row in range(many)]


def multiplied(one, other):
    """The product of two tables."""
    columns = list(zip(*other))
    return [[sum([left * right for left, right in zip(row, column)]) for column in columns] for row in one]


def as_rows(table):
    """The table as a tuple of tuples."""
    return tuple([tuple(row) for row in table])


def table_by(codes):
    """How many neighbours of the kind of each code each of the codes has."""
    prints = prints_of(codes)
    table = []
    for code in codes:
        found = prints_of(neighbours(code))
        table.append([found.count(wanted) for wanted in prints])
    return table


def summed(parts):
    """The sum of tables, each times a number; a part is a pair of both."""
    many = len(parts[0][1])
    return [[sum([number * table[row][column] for number, table in parts]) for column in range(many)]
            for row in range(many)]


def distance_tables(codes):
    """For each distance how many codes of each kind each of the codes has there."""
    table = table_by(codes)
    every = 2 << farthest(codes)
    ahead = [[0] * len(codes)] * len(codes)
    tables = [unit_table(len(codes))]
    for far in range(farthest(codes)):
        here = tables[far]
        power = 1 << far
        # the neighbours of codes at this distance, but for those that are nearer or as far
        farther = summed([(1, multiplied(table, here)), (power - every, ahead), (1 - power, here)])
        tables.append([[number // (2 * power - 1) for number in row] for row in farther])
        ahead = here
    return tables


def apart_by(tables, one, other):
    """The least distance at which the one kind has the other one."""
    return min([far for far, table in enumerate(tables) if table[one][other]])


def worths_by(length):
    """The worths of the length."""
    half = length // 2
    return tuple([(1 << half - at) - (1 << at) - 1 for at in range(half)])


def rows_by(table, worth):
    """The basis of the whole rows that the table leads to so many times themselves, in the form of rows_for."""
    unit = unit_table(len(table))
    lessened = summed([(1, table), (-worth, unit)])
    # each row carries along of which of them it is made; those that come to 0 tell all that do
    rows = echelon([row + made for row, made in zip(lessened, unit)])
    return [row[len(table):] for row in rows if not any(row[:len(table)])]


def echelon(rows):
    """The basis of all sums of whole multiples of free rows, in the form of rows_for."""
    done = []
    rest = rows
    for at in range(len(rows[0])):
        rest = gathered(rest, at)
        if rest and rest[0][at]:
            head = rest[0] if rest[0][at] > 0 else [-number for number in rest[0]]
            done = [less(row, row[at] // head[at], head) for row in done] + [head]
            rest = rest[1:]
    return done


def gathered(rows, at):
    """Rows that make the same sums, of which none but the first one has a number other than 0 there."""
    found = []
    for row in rows:
        if found:
            found[0], row = cleared(found[0], row, at)
        found.append(row)
    return found


def cleared(one, other, at):
    """Two rows that make the same sums, the second one with 0 there."""
    # the numbers there go on as in looking for a greatest common divisor
    while other[at]:
        one, other = other, less(one, one[at] // other[at], other)
    return one, other


def less(row, times, other):
    """The row, less so many times the other one."""
    return [number - times * part for number, part in zip(row, other)]


def table_of(codes):
    """The table: how many neighbours of the kind of each code each of the codes has."""
    need_all_kinds(codes)
    return as_rows(table_by(codes))


def distance_table(codes, far):
    """How many codes of the kind of each code each of the codes has at the distance."""
    need_list(codes)
    need_number(far, 0, farthest(codes))
    need_all_kinds(codes)
    return as_rows(distance_tables(codes)[far])


def walk_table(codes, steps):
    """How many walks of so many steps, each to a neighbour, lead from each of the codes to each kind."""
    need_list(codes)
    need_number(steps, 0, MOST_STEPS)
    need_all_kinds(codes)
    table = table_by(codes)
    walks = unit_table(len(codes))
    for _ in range(steps):
        walks = multiplied(walks, table)
    return as_rows(walks)


def worths(length):
    """The worths of the length, the greatest one first."""
    need_own_length(length)
    return worths_by(length)


def worth_numbers(codes):
    """For each worth the number of free rows that the table leads to so many times themselves."""
    need_all_kinds(codes)
    table = table_by(codes)
    return tuple([len(rows_by(table, worth)) for worth in worths_by(codes[0].length)])


def rows_for(codes, place):
    """The basis of the whole rows that the table leads to the worth with this index times themselves."""
    need_list(codes)
    need_number(place, 0, farthest(codes))
    need_all_kinds(codes)
    return as_rows(rows_by(table_by(codes), worths_by(codes[0].length)[place]))


def kinds_apart(codes, one, other):
    """The least distance of codes of both kinds."""
    need_two_kinds(codes, one, other)
    return apart_by(distance_tables(codes), one, other)


def nearest(codes, one, other):
    """A code of the other kind, as near to the one code as any of them."""
    need_two_kinds(codes, one, other)
    tables = distance_tables(codes)
    prints = prints_of(codes)
    code = codes[one]
    for far in range(apart_by(tables, one, other) - 1, -1, -1):
        # each code of a kind has a neighbour of the kinds that are one step nearer to the other one
        nearer = [prints[kind] for kind in range(len(codes)) if apart_by(tables, kind, other) == far]
        code = [step for step in neighbours(code) if fingerprint(step) in nearer][0]
    return code


def is_nearest(codes, one, other, value):
    """Whether the value is a right answer of nearest."""
    need_two_kinds(codes, one, other)
    if not is_own_of(codes[0].length, value) or fingerprint(value) != fingerprint(codes[other]):
        return False
    return distance_by(codes[one].basis, value.basis) == apart_by(distance_tables(codes), one, other)
