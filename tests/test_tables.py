"""[10.1] to [10.6]: tables, worths and nearest codes, held against counting neighbours and codes one by one."""

import functools
import itertools
import math
import random
import unittest

from ownchecks.code.codes import Code
from ownchecks.errors import InvalidNumber, InvalidOperation, Refused
from ownchecks.kinds import tables
from ownchecks.kinds.masses import kind_in, masses_of
from ownchecks.kinds.tables import distance_table, is_nearest, kinds_apart, nearest, rows_for, table_of, walk_table
from ownchecks.kinds.tables import worth_numbers, worths
from ownchecks.near.every import codes, count_at, count_of
from ownchecks.near.neighbours import distance, neighbours
from ownchecks.same.exchanges import exchanged
from tests import naive
from tests.kinds import EIGHT, LISTS, MIXED, PAIR, PLAIN, SEVENS, STRIP, mixed_up, plain, told

LENGTHS = (2, 4, 6, 8)
TWO = (PLAIN, EIGHT)


@functools.lru_cache(None)
def counted(length, far):
    """How many codes of each kind have the distance of each known code, a look at all of them."""
    kinds = naive.classes(length)
    known = [naive.sums(code.basis) for code in LISTS[length]]
    return tuple(tuple(len([1 for other, kind in kinds.items()
                            if kind == kinds[wanted] and naive.apart(one, other) == far])
                       for wanted in known) for one in known)


def times(one, other):
    return tuple(tuple(sum(left * right for left, right in zip(row, column)) for column in zip(*other)) for row in one)


def added(*tables_and_numbers):
    """The sum of tables, each times a number."""
    many = len(tables_and_numbers[0][1])
    return tuple(tuple(sum(number * table[row][column] for number, table in tables_and_numbers)
                       for column in range(many)) for row in range(many))


def unit(many):
    return tuple(tuple(int(row == column) for column in range(many)) for row in range(many))


def exchanged_list(listed, seed):
    source = random.Random(seed)
    return tuple(exchanged(code, mixed_up(code.length, source)) for code in listed)


class Tables(unittest.TestCase):
    def test_by_counting_neighbours_one_by_one(self):
        for length in LENGTHS:
            self.assertEqual(table_of(LISTS[length]), counted(length, 1))
        for length, known in LISTS.items():
            rows = [[kind_in(known, code) for code in neighbours(one)] for one in known]
            self.assertEqual(table_of(known), tuple(tuple(row.count(kind) for kind in range(len(known))) for row in rows))

    def test_it_hangs_on_the_kinds_alone(self):
        for length, known in LISTS.items():
            table = table_of(known)
            self.assertTrue(type(table) is tuple and {type(row) for row in table} == {tuple})
            self.assertEqual(table_of(exchanged_list(known, 101)), table)
            backward = exchanged_list(known[::-1], 102)
            self.assertEqual(table_of(backward), tuple(row[::-1] for row in table[::-1]))
        for _, code in told(8)[::10]:
            at = kind_in(TWO, code)
            self.assertEqual(table_of((code, TWO[1 - at]))[0][0], table_of(TWO)[at][at])

    def test_rows_add_up_and_balance(self):
        for length, known in LISTS.items():
            table, masses = table_of(known), masses_of(known)
            self.assertEqual({sum(row) for row in table}, {2 ** (length // 2) - 2})
            for one, other in itertools.product(range(len(known)), repeat=2):
                self.assertEqual(masses[one] * table[one][other], masses[other] * table[other][one])

    def test_edges(self):
        self.assertEqual([table_of((PAIR,)), table_of((plain(4),)), table_of((plain(6),))], [((0,),), ((2,),), ((6,),)])
        self.assertEqual(table_of(LISTS[14]), ((42, 70, 14, 0), (7, 61, 42, 16), (1, 30, 55, 40), (0, 14, 49, 63)))


class Distances(unittest.TestCase):
    def test_by_counting_all_codes(self):
        for length in LENGTHS:
            for far in range(length // 2):
                self.assertEqual(distance_table(LISTS[length], far), counted(length, far))

    def test_by_counting_all_codes_of_the_length_10(self):
        rows = [[[0, 0] for _ in range(2)] for _ in range(5)]
        for code in codes(10):
            kind = kind_in(LISTS[10], code)
            for at, one in enumerate(LISTS[10]):
                rows[distance(one, code)][at][kind] += 1
        for far in range(5):
            self.assertEqual(distance_table(LISTS[10], far), tuple(tuple(row) for row in rows[far]))

    def test_told_products(self):
        for length, known in LISTS.items():
            most = length // 2 - 1
            table = table_of(known)
            every = [distance_table(known, far) for far in range(most + 1)]
            self.assertEqual(every[0], unit(len(known)))
            if most:
                self.assertEqual(every[1], table)
            zero = added((0, table))
            for far in range(most + 1):
                ahead = every[far - 1] if far else zero
                behind = every[far + 1] if far < most else zero
                told_sum = added((2 ** (most + 1) - 2 ** far, ahead), (2 ** far - 1, every[far]),
                                 (2 ** (far + 1) - 1, behind))
                self.assertEqual(times(table, every[far]), told_sum)

    def test_how_many_there_are(self):
        for length, known in LISTS.items():
            every = [distance_table(known, far) for far in range(length // 2)]
            for far, table in enumerate(every):
                self.assertEqual({sum(row) for row in table}, {count_at(length, far)})
                self.assertGreaterEqual(min(number for row in table for number in row), 0)
            self.assertEqual(added(*[(1, table) for table in every]), (masses_of(known),) * len(known))

    def test_edges(self):
        self.assertEqual([distance_table((PAIR,), 0), distance_table((plain(4),), 1)], [((1,),), ((2,),)])
        for known, far in ((LISTS[2], 1), (LISTS[8], 4), (LISTS[14], 7), (LISTS[14], -1), (TWO, True), (TWO, None)):
            with self.assertRaises(InvalidNumber) as caught:
                distance_table(known, far)
            self.assertIs(caught.exception.given, far)


class Walks(unittest.TestCase):
    def test_step_by_step(self):
        for length in LENGTHS:
            known = LISTS[length]
            near = {code.basis: [one.basis for one in neighbours(code)] for _, code in told(length)}
            kinds = {code.basis: kind_in(known, code) for _, code in told(length)}
            for at, code in enumerate(known):
                walks = {code.basis: 1}
                for steps in range(5):
                    row = [0] * len(known)
                    for basis, many in walks.items():
                        row[kinds[basis]] += many
                    self.assertEqual(walk_table(known, steps)[at], tuple(row))
                    latest = {}
                    for basis, many in walks.items():
                        for one in near[basis]:
                            latest[one] = latest.get(one, 0) + many
                    walks = latest

    def test_products(self):
        for known in LISTS.values():
            table, walks = table_of(known), unit(len(known))
            for steps in range(61):
                if steps in (0, 1, 2, 3, 7, 59, 60):
                    self.assertEqual(walk_table(known, steps), walks)
                walks = times(walks, table)

    def test_shares_tend_to_the_masses(self):
        for length, known in LISTS.items():
            if length == 2:
                continue
            masses, every = masses_of(known), count_of(length)
            last = None
            for steps in (2, 10, 60):
                table = walk_table(known, steps)
                off = max(abs(number * every - mass * sum(row)) / (every * sum(row))
                          for row in table for number, mass in zip(row, masses))
                self.assertTrue(last is None or off <= last)
                last = off
            self.assertLess(last, 10 ** -12)

    def test_edges(self):
        self.assertEqual([walk_table((PAIR,), steps) for steps in (0, 1, 2, 60)], [((1,),), ((0,),), ((0,),), ((0,),)])
        self.assertEqual(walk_table((plain(6),), 60), ((6 ** 60,),))
        for steps in (61, 62, -1, True, False, None, "2", (2,), 10 ** 60):
            with self.assertRaises(InvalidNumber) as caught:
                walk_table(TWO, steps)
            self.assertIs(caught.exception.given, steps)
        self.assertEqual(tables.MOST_STEPS, 60)


class Worths(unittest.TestCase):
    def test_told_numbers(self):
        for length in range(2, 26, 2):
            most = length // 2 - 1
            answer = worths(length)
            self.assertIs(type(answer), tuple)
            self.assertEqual(answer, tuple(2 ** (most + 1 - at) - 2 ** at - 1 for at in range(most + 1)))
            self.assertEqual(answer[0], 2 ** (most + 1) - 2)
            self.assertEqual(list(answer), sorted(set(answer), reverse=True))
        self.assertEqual([worths(2), worths(4), worths(8)], [(0,), (2, -1), (14, 5, -1, -7)])
        for length in (0, 1, 3, 9, 23, 25, 26, True, None, "4", -2, 10 ** 59):
            with self.assertRaises(InvalidNumber) as caught:
                worths(length)
            self.assertIs(caught.exception.given, length)

    def test_the_product_is_0(self):
        for length, known in LISTS.items():
            table, product = table_of(known), unit(len(known))
            for worth in worths(length):
                product = times(product, added((1, table), (-worth, unit(len(known)))))
            self.assertEqual(product, added((0, table)))

    def test_numbers_of_free_rows(self):
        for length, known in LISTS.items():
            numbers = worth_numbers(known)
            self.assertEqual([len(numbers), sum(numbers)], [length // 2, len(known)])
            for place, worth in enumerate(worths(length)):
                lessened = added((1, table_of(known)), (-worth, unit(len(known))))
                self.assertEqual(numbers[place], len(known) - rank(lessened))
                self.assertEqual(numbers[place], len(rows_for(known, place)))
        self.assertEqual(worth_numbers(LISTS[14]), (1, 1, 1, 1, 0, 0, 0))

    def test_rows(self):
        for length, known in LISTS.items():
            for listed in (known, known[::-1], exchanged_list(known, 103)):
                table = table_of(listed)
                for place, worth in enumerate(worths(length)):
                    rows = rows_for(listed, place)
                    self.assertTrue(type(rows) is tuple and all(type(row) is tuple for row in rows))
                    for row in rows:
                        self.assertEqual(times((row,), table), (tuple(worth * number for number in row),))
                        self.assertGreater(next(number for number in row if number), 0)
                        self.assertEqual(math.gcd(*row), 1)

    def test_all_whole_rows_are_sums(self):
        for length, limit in ((8, 20), (10, 20), (12, 8), (14, 4)):
            known = LISTS[length]
            table = table_of(known)
            bases = {worth: rows_for(known, place) for place, worth in enumerate(worths(length))}
            for row in itertools.product(range(-limit, limit + 1), repeat=len(known)):
                for worth, rows in bases.items():
                    if times((row,), table) == (tuple(worth * number for number in row),) and any(row):
                        self.assertEqual(len(rows), 1)
                        times_told = {number // part for number, part in zip(row, rows[0]) if part}
                        self.assertEqual(len(times_told), 1)
                        self.assertEqual(row, tuple(part * min(times_told) for part in rows[0]))

    def test_the_first_worth_has_the_masses(self):
        for known in LISTS.values():
            masses = masses_of(known)
            self.assertEqual(rows_for(known, 0), (tuple(mass // math.gcd(*masses) for mass in masses),))

    def test_edges(self):
        self.assertEqual([rows_for((PAIR,), 0), rows_for((plain(4),), 0), rows_for((plain(4),), 1)], [((1,),), ((1,),), ()])
        self.assertEqual([rows_for(TWO, 2), rows_for(TWO, 3), rows_for(TWO[::-1], 0), rows_for(TWO[::-1], 1)],
                         [(), (), ((2, 7),), ((1, -1),)])
        for known, place in (((PAIR,), 1), (TWO, 4), (TWO, -1), (TWO, True), (LISTS[14], 7), (TWO, None)):
            with self.assertRaises(InvalidNumber) as caught:
                rows_for(known, place)
            self.assertIs(caught.exception.given, place)


def rank(rows):
    """The number of free rows, by whole multiples."""
    rows, found = [list(row) for row in rows], 0
    for at in range(len(rows[0])):
        head = next((row for row in rows if row[at]), None)
        if head is not None:
            found += 1
            rows.remove(head)
            rows = [[number * head[at] - part * row[at] for number, part in zip(row, head)] for row in rows]
    return found


def minors(rows):
    """The greatest common divisor of all that the rows have as determinants."""
    def determinant(part):
        if not part:
            return 1
        return sum((-1) ** at * part[0][at] * determinant([row[:at] + row[at + 1:] for row in part[1:]])
                   for at in range(len(part)))
    return math.gcd(*[determinant([[row[at] for at in places] for row in rows])
                      for places in itertools.combinations(range(len(rows[0])), len(rows))])


class Echelon(unittest.TestCase):
    """The form of [rows_for], for more rows than any list of kinds to the length 14 has."""

    def test_form_and_sums(self):
        source = random.Random(104)
        for many, width in ((1, 1), (1, 3), (2, 2), (2, 3), (3, 3), (3, 5), (4, 4), (4, 6)):
            for _ in range(30):
                rows = [[source.randint(-6, 6) for _ in range(width)] for _ in range(many)]
                answer = tables.echelon(rows)
                self.assertEqual(len(answer), rank(rows))
                heads = [next(at for at in range(width) if row[at]) for row in answer]
                self.assertEqual(heads, sorted(set(heads)))
                for at, row in zip(heads, answer):
                    self.assertGreater(row[at], 0)
                    above = [other[at] for other in answer[:answer.index(row)]]
                    self.assertTrue(all(0 <= number < row[at] for number in above))
                for row in rows:
                    for at, head in zip(heads, answer):
                        row = [number - row[at] // head[at] * part for number, part in zip(row, head)]
                    self.assertFalse(any(row))
                if len(answer) == many:
                    self.assertEqual(minors(answer), abs(minors(rows)))


class Nearest(unittest.TestCase):
    def test_least_distances(self):
        for length in LENGTHS:
            known = LISTS[length]
            for one, other in itertools.product(range(len(known)), repeat=2):
                kinds = naive.classes(length)
                start, wanted = (naive.sums(known[at].basis) for at in (one, other))
                least = min(naive.apart(start, span) for span, kind in kinds.items() if kind == kinds[wanted])
                self.assertEqual(kinds_apart(known, one, other), least)
                for span, code in told(length):
                    right = kinds[span] == kinds[wanted] and naive.apart(start, span) == least
                    self.assertIs(is_nearest(known, one, other, code), right)

    def test_known_kinds(self):
        for length, known in LISTS.items():
            listed = exchanged_list(known, 105)
            far = [[kinds_apart(listed, one, other) for other in range(len(listed))] for one in range(len(listed))]
            every = [distance_table(listed, least) for least in range(length // 2)]
            self.assertEqual(far, [list(row) for row in zip(*far)])
            for one, other in itertools.product(range(len(listed)), repeat=2):
                answer = nearest(listed, one, other)
                self.assertEqual(kind_in(listed, answer), other)
                self.assertEqual(distance(listed[one], answer), far[one][other])
                self.assertIs(is_nearest(listed, one, other, answer), True)
                self.assertEqual(far[one][other], min(at for at, table in enumerate(every) if table[one][other]))
            self.assertEqual([nearest(listed, at, at) for at in range(len(listed))], list(listed))
        self.assertEqual([[kinds_apart(LISTS[14], one, other) for other in range(4)] for one in range(4)],
                         [[0, 1, 1, 2], [1, 0, 1, 1], [1, 1, 0, 1], [2, 1, 1, 0]])

    def test_no_other_value_is_right(self):
        near = nearest(TWO, 0, 1)
        for value in (None, True, 0, 10 ** 5000, "", (), (near,), [near], near.basis, PLAIN, PAIR, MIXED, STRIP,
                      Code(8, ()), Code(8, near.basis[1:]), ("nearest", near), 5000 * (near,)):
            self.assertIs(is_nearest(TWO, 0, 1, value), False)
        self.assertIs(is_nearest(TWO, 0, 1, Code(8, near.basis)), True)
        self.assertIs(is_nearest(LISTS[14], 0, 3, SEVENS), distance(LISTS[14][0], SEVENS) == 2)

    def test_indices(self):
        for one, other, wrong in ((2, 0, 2), (0, 2, 2), (-1, 5, -1), (True, 0, True), (0, False, False), (None, 9, None),
                                  (10 ** 60, -1, 10 ** 60), ("0", 1, "0"), (1, (1,), (1,))):
            for call in (lambda: kinds_apart(TWO, one, other), lambda: nearest(TWO, one, other),
                         lambda: is_nearest(TWO, one, other, EIGHT)):
                with self.assertRaises(InvalidNumber) as caught:
                    call()
                self.assertEqual(caught.exception.given, wrong)
                self.assertIs(type(caught.exception.given), type(wrong))


class Refusing(unittest.TestCase):
    def calls(self, listed, number=0):
        return ((table_of, (listed,)), (distance_table, (listed, number)), (walk_table, (listed, number)),
                (worth_numbers, (listed,)), (rows_for, (listed, number)), (kinds_apart, (listed, number, number)),
                (nearest, (listed, number, number)), (is_nearest, (listed, number, number, None)))

    def test_alike_goes_ahead_of_lacking(self):
        for listed, reason in (((PLAIN,), ("lacks",)), ((EIGHT,), ("lacks",)), ((PLAIN, PLAIN), ("alike", 0, 1)),
                               ((PLAIN, EIGHT, PLAIN), ("alike", 0, 2)), (TWO + TWO, ("alike", 0, 2)),
                               ((EIGHT, PLAIN, PLAIN, EIGHT), ("alike", 0, 3)), (LISTS[14][:3], ("lacks",)),
                               (LISTS[14][1:], ("lacks",)), (LISTS[12][:2] * 2, ("alike", 0, 2)), ((PAIR,) * 8, ("alike", 0, 1))):
            for call, arguments in self.calls(listed):
                with self.assertRaises(Refused) as caught:
                    call(*arguments)
                self.assertEqual(caught.exception.reason, reason)

    def test_numbers_go_ahead_of_both(self):
        for listed in ((PLAIN,), (PLAIN, PLAIN)):
            for call, arguments in self.calls(listed, 99):
                with self.assertRaises((InvalidNumber, Refused)) as caught:
                    call(*arguments)
                expected = Refused if len(arguments) == 1 else InvalidNumber
                self.assertIs(type(caught.exception), expected)

    def test_lists_go_ahead_of_numbers(self):
        for listed in ((), (PLAIN,) * 9, (PLAIN, MIXED), [PLAIN, EIGHT], (plain(16),), None, (Code(8, ()),)):
            for call, arguments in self.calls(listed, 99):
                with self.assertRaises(InvalidOperation):
                    call(*arguments)


class Untrue(unittest.TestCase):
    """What [10.6] calls untrue."""

    def test_a_kind_without_neighbours_of_another_one(self):
        self.assertEqual(table_of(LISTS[14])[0][3], 0)
        self.assertFalse([code for code in neighbours(plain(14)) if kind_in((SEVENS,), code) == 0])

    def test_a_worth_without_a_row(self):
        self.assertEqual([worth_numbers(TWO), rows_for(TWO, 2)], [(1, 1, 0, 0), ()])

    def test_a_kind_that_is_not_among_its_neighbours(self):
        self.assertEqual([table_of((PAIR,)), neighbours(PAIR)], [((0,),), ()])

    def test_rows_and_columns_exchanged(self):
        table = table_of(TWO)
        self.assertNotEqual(tuple(zip(*table)), table)


if __name__ == "__main__":
    unittest.main()
