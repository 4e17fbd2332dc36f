"""[0.16] and [11.1] to [11.7]: own rows and their parts, held against products of polynomials and counts of codes."""

import fractions
import itertools
import random
import unittest

from ownchecks.errors import InvalidCounts, InvalidNumber, InvalidOperation
from ownchecks.near.every import codes
from ownchecks.weigh.counts import counts_of, least_weight, transformed
from ownchecks.weigh.two import barest, four_barest, four_parts_or_weight, four_row, four_row_by, four_row_by_light
from ownchecks.weigh.two import parts_of, parts_or_weight, row_by, row_by_light, two_row
from tests import naive
from tests.kinds import EIGHT, GOLAY, LISTS, LONG_STRIP, MIXED, PAIR, PLAIN, SIXTEEN, beside, plain, some, told

EVEN = tuple(range(2, 26, 2))
FOURS = (8, 16, 24)
MOST = 10 ** 60 - 1
BY_FOURS = (EIGHT, beside(EIGHT, EIGHT), LONG_STRIP, beside(EIGHT, EIGHT, EIGHT), beside(EIGHT, LONG_STRIP), GOLAY)


def product(*polynomials):
    """The product of polynomials, dicts of exponents and numbers."""
    out = {0: 1}
    for polynomial in polynomials:
        latest = {}
        for (at, number), (then, part) in itertools.product(out.items(), polynomial.items()):
            latest[at + then] = latest.get(at + then, 0) + number * part
        out = latest
    return out


def as_row(length, polynomial):
    assert all(number == 0 for at, number in polynomial.items() if at > length)
    return tuple(polynomial.get(at, 0) for at in range(length + 1))


def two_told(length, j):
    one, other = {0: 1, 2: 1}, [{2: 1}, {0: 1, 2: -1}, {0: 1, 2: -1}]
    return as_row(length, product(*[one] * (length // 2 - 4 * j), *other * j))


def four_told(length, j):
    one, other = {0: 1, 4: 14, 8: 1}, [{4: 1}] + [{0: 1, 4: -1}] * 4
    return as_row(length, product(*[one] * (length // 8 - 3 * j), *other * j))


def is_own_row(row, step):
    """Whether the row is one, by the words of the document."""
    length = len(row) - 1
    scaled = tuple(2 ** (length // 2) * number for number in row)
    return not any(number for at, number in enumerate(row) if at % step) and naive.transformed(row) == scaled


def first_fault(row, step, name):
    """What shows that the row is no own one, or None."""
    length = len(row) - 1
    wrong = [at for at, number in enumerate(row) if at % step and number]
    if wrong:
        return name, wrong[0]
    wrong = [at for at, number in enumerate(naive.transformed(row)) if number != 2 ** (length // 2) * row[at]]
    return ("unlike", wrong[0]) if wrong else None


def free_solutions(length, step):
    """The dimension of all own rows: unknown numbers less free conditions."""
    conditions = []
    for weight in range(length + 1):
        row = [fractions.Fraction(naive.power_row(length, at)[weight]) for at in range(length + 1)]
        row[weight] -= 2 ** (length // 2)
        conditions.append(row)
        if weight % step:
            conditions.append([fractions.Fraction(int(at == weight)) for at in range(length + 1)])
    found = 0
    for at in range(length + 1):
        head = next((row for row in conditions if row[at]), None)
        if head is not None:
            found += 1
            conditions.remove(head)
            conditions = [[number - part * row[at] / head[at] for number, part in zip(row, head)] for row in conditions]
    return length + 1 - found


def made_parts(length, block, seed, most):
    source = random.Random(seed)
    return tuple(source.randint(-most, most) for _ in range(length // block + 1))


class Rows(unittest.TestCase):
    def test_by_multiplying_polynomials(self):
        for length in EVEN:
            for j in range(length // 8 + 1):
                row = two_row(length, j)
                self.assertIs(type(row), tuple)
                self.assertEqual(row, two_told(length, j))
                self.assertEqual(row[:2 * j + 1], (0,) * (2 * j) + (1,))
        for length in FOURS:
            for j in range(length // 24 + 1):
                row = four_row(length, j)
                self.assertEqual(row, four_told(length, j))
                self.assertEqual(row[:4 * j + 1], (0,) * (4 * j) + (1,))

    def test_they_are_own_and_the_same_from_both_ends(self):
        for length in EVEN:
            for row in [two_row(length, j) for j in range(length // 8 + 1)]:
                self.assertTrue(is_own_row(row, 2))
                self.assertEqual(transformed(row), tuple(2 ** (length // 2) * number for number in row))
                self.assertEqual(row, row[::-1])
        for length in FOURS:
            for row in [four_row(length, j) for j in range(length // 24 + 1)]:
                self.assertTrue(is_own_row(row, 4))
                self.assertEqual(row, row[::-1])

    def test_edges(self):
        self.assertEqual([two_row(2, 0), two_row(4, 0), two_row(6, 0)], [(1, 0, 1), (1, 0, 2, 0, 1), (1, 0, 3, 0, 3, 0, 1)])
        self.assertEqual(two_row(24, 3), as_row(24, {6: 1, 8: -6, 10: 15, 12: -20, 14: 15, 16: -6, 18: 1}))
        self.assertEqual(four_row(24, 1), as_row(24, {4: 1, 8: -4, 12: 6, 16: -4, 20: 1}))
        for length in EVEN:
            for j in (length // 8 + 1, length // 8 + 2, -1, True, None, "0", (0,), 10 ** 60):
                with self.assertRaises(InvalidNumber) as caught:
                    two_row(length, j)
                self.assertIs(caught.exception.given, j)
        for length, j in ((8, 1), (16, 1), (24, 2), (24, -1), (8, False)):
            with self.assertRaises(InvalidNumber) as caught:
                four_row(length, j)
            self.assertIs(caught.exception.given, j)

    def test_lengths(self):
        for length in list(range(-2, 30)) + [True, None, "8", (8,), 10 ** 59, 32, 48]:
            for call, right in ((two_row, EVEN), (four_row, FOURS)):
                if type(length) is int and length in right:
                    self.assertEqual(len(call(length, 0)), length + 1)
                else:
                    with self.assertRaises(InvalidNumber) as caught:
                        call(length, 0)
                    self.assertIs(caught.exception.given, length)


class Sums(unittest.TestCase):
    def test_each_row_times_its_part(self):
        for length, most in itertools.product(EVEN, (1, 50, MOST)):
            parts = made_parts(length, 8, length * most, most)
            expected = [0] * (length + 1)
            for j, part in enumerate(parts):
                expected = [number + part * more for number, more in zip(expected, two_told(length, j))]
            self.assertEqual(row_by(length, parts), tuple(expected))
            self.assertTrue(is_own_row(row_by(length, parts), 2))
        for length, most in itertools.product(FOURS, (1, 50, MOST)):
            parts = made_parts(length, 24, length * most, most)
            expected = [0] * (length + 1)
            for j, part in enumerate(parts):
                expected = [number + part * more for number, more in zip(expected, four_told(length, j))]
            self.assertEqual(four_row_by(length, parts), tuple(expected))
            self.assertTrue(is_own_row(four_row_by(length, parts), 4))

    def test_parts_of_a_sum(self):
        for length in EVEN:
            for seed in range(5):
                parts = made_parts(length, 8, seed, 10 ** 40)
                self.assertEqual(parts_or_weight(row_by(length, parts)), ("parts", parts))
        for length in FOURS:
            for seed in range(5):
                parts = made_parts(length, 24, seed, 10 ** 40)
                self.assertEqual(four_parts_or_weight(four_row_by(length, parts)), ("parts", parts))

    def test_no_other_own_rows(self):
        for length in EVEN:
            self.assertEqual(free_solutions(length, 2), length // 8 + 1)
        for length in FOURS:
            self.assertEqual(free_solutions(length, 4), length // 24 + 1)

    def test_zeros(self):
        for length in EVEN:
            self.assertEqual(row_by(length, (0,) * (length // 8 + 1)), (0,) * (length + 1))
            self.assertEqual(parts_or_weight((0,) * (length + 1)), ("parts", (0,) * (length // 8 + 1)))
        self.assertEqual(four_parts_or_weight((0,) * 25), ("parts", (0, 0)))


class EitherOr(unittest.TestCase):
    def held(self, row):
        answer, fault = parts_or_weight(row), first_fault(row, 2, "odd")
        self.assertIs(type(answer), tuple)
        if fault:
            self.assertEqual(answer, fault)
        else:
            self.assertEqual([answer[0], row_by(len(row) - 1, answer[1])], ["parts", row])
        return answer[0]

    def held_by_fours(self, row):
        answer, fault = four_parts_or_weight(row), first_fault(row, 4, "weight")
        if fault:
            self.assertEqual(answer, fault)
        else:
            self.assertEqual([answer[0], four_row_by(len(row) - 1, answer[1])], ["parts", row])
        return answer[0]

    def test_many_small_rows(self):
        kinds = {self.held(row) for row in itertools.product(range(-4, 5), repeat=3)}
        kinds |= {self.held(row) for row in itertools.product(range(-2, 4), repeat=5)}
        self.assertEqual(kinds, {"odd", "unlike", "parts"})
        for row in itertools.product(range(-1, 2), repeat=9):
            if sum(number != 0 for number in row) < 4:
                self.held(row)
                self.held_by_fours(row)

    def test_rows_that_are_nearly_own(self):
        source = random.Random(111)
        kinds = set()
        for length in EVEN:
            for _ in range(40):
                row = list(row_by(length, made_parts(length, 8, source.random(), 9)))
                for _ in range(source.randrange(3)):
                    row[source.randrange(length + 1)] += source.randint(-2, 2)
                kinds.add(self.held(tuple(row)))
                if length in FOURS:
                    row = list(four_row_by(length, made_parts(length, 24, source.random(), 9)))
                    for _ in range(source.randrange(3)):
                        row[source.randrange(length + 1)] += source.randint(-2, 2)
                    kinds.add(self.held_by_fours(tuple(row)))
        self.assertEqual(kinds, {"odd", "weight", "unlike", "parts"})

    def test_what_goes_ahead(self):
        # an odd place goes ahead of an unlike one, wherever it stands
        self.assertEqual(parts_or_weight((5, 0, 0, 1, 0)), ("odd", 3))
        self.assertEqual(parts_or_weight((5, 0, 0, 0, 0)), ("unlike", 0))
        self.assertEqual(parts_or_weight((0, 1, 0, -1, 0)), ("odd", 1))
        self.assertEqual(four_parts_or_weight((9, 0, 0, 0, 0, 0, 1, 0, 0)), ("weight", 6))
        self.assertEqual(four_parts_or_weight((9, 0, 0, 0, 0, 0, 0, 0, 0)), ("unlike", 0))
        self.assertEqual(four_parts_or_weight((1, 0, 4, 0, 6, 0, 4, 0, 1)), ("weight", 2))
        # the first numbers are transformed as they have to be, a later one is not
        row = (0, 0, 1, 0, -2, 0, 1, 0, 0)
        self.assertEqual(parts_or_weight(row), ("parts", (0, 1)))
        self.assertEqual([self.held(row[:at] + (row[at] + 16,) + row[at + 1:]) for at in (0, 2, 4, 6, 8)], ["unlike"] * 5)

    def test_lengths(self):
        for many in range(2, 26):
            for row in ((0,) * many, (1,) + (0,) * (many - 1)):
                for call, right in ((parts_or_weight, EVEN), (four_parts_or_weight, FOURS)):
                    if many - 1 in right:
                        self.assertIn(call(row)[0], ("parts", "unlike"))
                    else:
                        with self.assertRaises(InvalidOperation):
                            call(row)
        for row in ((1,), (), (0,) * 26, (0,) * 33, (1, 0, True), [1, 0, 1], (1, 0, 10 ** 60), None):
            for call in (parts_or_weight, four_parts_or_weight):
                with self.assertRaises(InvalidCounts):
                    call(row)
        self.assertEqual(parts_or_weight((MOST, 0, MOST)), ("parts", (MOST,)))
        self.assertEqual(parts_or_weight((-MOST, 0, -MOST)), ("parts", (-MOST,)))


class PartsOfCodes(unittest.TestCase):
    def test_all_short_codes(self):
        for length in (2, 4, 6, 8):
            for span, code in told(length):
                row, parts = naive.counts(length, span), parts_of(code)
                self.assertEqual([row_by(length, parts), len(parts)], [row, length // 8 + 1])
                self.assertEqual(parts_or_weight(row), ("parts", parts))
                self.assertEqual(row, row[::-1])
                self.assertEqual(parts, (1, row[2] - 4) if length == 8 else (1,))
                if length == 8 and not any(row[at] for at in range(9) if at % 4):
                    self.assertEqual(four_parts_or_weight(row), ("parts", (1,)))
                elif length == 8:
                    self.assertEqual(four_parts_or_weight(row), ("weight", 2))

    def test_longer_codes(self):
        for code in some(112, EVEN[4:], 3) + list(SIXTEEN) + list(BY_FOURS) + list(LISTS[14]):
            row = naive.counts(code.length, naive.sums(code.basis))
            parts = parts_of(code)
            self.assertEqual([row_by(code.length, parts), parts[0]], [row, 1])
            self.assertLessEqual(least_weight(code), 2 * (code.length // 8) + 2)
        for code in BY_FOURS:
            kind, parts = four_parts_or_weight(counts_of(code))
            self.assertEqual([kind, parts[0], four_row_by(code.length, parts)], ["parts", 1, counts_of(code)])
            self.assertLessEqual(least_weight(code), 4 * (code.length // 24) + 4)
        self.assertEqual(four_parts_or_weight(counts_of(GOLAY)), ("parts", (1, -42)))


class Light(unittest.TestCase):
    def test_just_one_own_row(self):
        for length, most in itertools.product(EVEN, (3, MOST)):
            for seed in range(4):
                light = made_parts(length, 8, seed, most)
                row = row_by_light(length, light)
                self.assertEqual(row[:2 * len(light):2], light)
                self.assertTrue(is_own_row(row, 2))
                parts = made_parts(length, 8, seed, most // 10 ** 9)
                row = row_by(length, parts)
                if max(abs(number) for number in row) <= MOST:
                    self.assertEqual(row_by_light(length, row[:2 * len(parts):2]), row)
        for length, most in itertools.product(FOURS, (3, MOST)):
            for seed in range(4):
                light = made_parts(length, 24, seed, most)
                row = four_row_by_light(length, light)
                self.assertEqual(row[:4 * len(light):4], light)
                self.assertTrue(is_own_row(row, 4))

    def test_light_words_tell_all_counts(self):
        for code in [code for _, code in told(8)] + some(113, EVEN[4:], 2) + list(SIXTEEN):
            row = counts_of(code)
            self.assertEqual(row_by_light(code.length, row[:2 * (code.length // 8) + 1:2]), row)
        for code in BY_FOURS:
            row = counts_of(code)
            self.assertEqual(four_row_by_light(code.length, row[:4 * (code.length // 24) + 1:4]), row)

    def test_barest(self):
        for length in EVEN:
            row, last = barest(length), 2 * (length // 8)
            self.assertEqual(row[:last + 1], (1,) + (0,) * last)
            self.assertTrue(is_own_row(row, 2))
            self.assertTrue(length == last or row[last + 2] > 0)
            self.assertEqual(row, row_by_light(length, (1,) + (0,) * (length // 8)))
        for length in FOURS:
            row, last = four_barest(length), 4 * (length // 24)
            self.assertEqual(row[:last + 1], (1,) + (0,) * last)
            self.assertTrue(is_own_row(row, 4))
            self.assertGreater(row[last + 4], 0)
        self.assertEqual([barest(2), barest(4), four_barest(8), four_barest(24)],
                         [(1, 0, 1), (1, 0, 2, 0, 1), counts_of(EIGHT), counts_of(GOLAY)])

    def test_numbers_of_unlike_many(self):
        for length in EVEN:
            many = length // 8 + 1
            for wrong in ((0,) * (many - 1), (0,) * (many + 1), [0] * many, (0,) * (many - 1) + (True,), None, 0,
                          (0,) * (many - 1) + (10 ** 60,), (-10 ** 60,) + (0,) * (many - 1), ("0",) * many, ((0,),) * many):
                for call in (row_by, row_by_light):
                    with self.assertRaises(InvalidOperation):
                        call(length, wrong)
        for length in FOURS:
            many = length // 24 + 1
            for wrong in ((0,) * (many - 1), (0,) * (many + 1), [0] * many, (False,) * many, (10 ** 60,) * many):
                for call in (four_row_by, four_row_by_light):
                    with self.assertRaises(InvalidOperation):
                        call(length, wrong)


class Untrue(unittest.TestCase):
    """What [11.7] and [0.20] call untrue."""

    def test_an_own_row_that_no_code_has(self):
        row = barest(10)
        self.assertEqual([parts_or_weight(row)[0], row[0], min(row)], ["parts", 1, 0])
        self.assertNotIn(row, {counts_of(code) for code in codes(10)})

    def test_a_part_that_is_0(self):
        self.assertEqual([parts_of(PLAIN), parts_of(plain(24))], [(1, 0), (1, 0, 0, 0)])

    def test_the_row_by_fours_is_none_of_the_others(self):
        for length in FOURS:
            rows = [two_row(length, j) for j in range(length // 8 + 1)]
            self.assertNotIn(four_row(length, 0), rows)
            self.assertEqual(parts_or_weight(four_row(length, 0))[0], "parts")

    def test_equal_counts_and_not_alike(self):
        self.assertEqual(counts_of(SIXTEEN[4]), counts_of(LONG_STRIP))
        self.assertEqual(parts_of(SIXTEEN[4]), parts_of(LONG_STRIP))
        self.assertEqual([parts_of(PAIR), parts_of(MIXED)], [(1,), (1, -4)])


if __name__ == "__main__":
    unittest.main()
