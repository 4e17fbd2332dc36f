"""[0.16], [0.17] and [14.1] to [14.6]: counts of shadows, and codes beside, held against words and neighbours."""

import fractions
import itertools
import random
import unittest

from ownchecks.code.codes import does_hold, is_own
from ownchecks.errors import InvalidNumber, InvalidOperation, Refused
from ownchecks.four.families import half, is_by_fours
from ownchecks.four.shades import beside, counts_or_weight, is_counts_or_weight, raised, shadow_counts
from ownchecks.four.shadows import least_shadow, quarter_of, shadow
from ownchecks.near.every import codes, count_of, parents
from ownchecks.near.neighbours import distance, neighbours
from ownchecks.same.exchanges import exchange_or_none
from ownchecks.same.parts import side_by_side
from ownchecks.weigh.counts import counts_of
from ownchecks.weigh.two import parts_of, row_by
from tests import kinds, naive
from tests.kinds import EIGHT, GOLAY, LISTS, LONG_STRIP, MIXED, PAIR, PLAIN, SEVENS, SIXTEEN, STRIP, plain, some, told

LENGTHS = (2, 4, 6, 8)
EVEN = tuple(range(2, 26, 2))
LONGER = tuple(some(141, range(10, 26, 2), 3)) + LISTS[14] + LISTS[12] + SIXTEEN + (GOLAY, plain(24))
MOST = 10 ** 60 - 1


def four(word):
    return naive.ones(word) % 4 == 0


def told_numbers(length, parts):
    """The numbers of [14.1], as fractions."""
    row = [fractions.Fraction(0)] * (length + 1)
    for j, part in enumerate(parts):
        polynomial = [1]
        for _ in range(2 * j):
            polynomial = [low - high for low, high in zip(polynomial + [0] * 4, [0] * 4 + polynomial)]
        for at, number in enumerate(polynomial):
            row[length // 2 - 4 * j + at] += (-1) ** j * part * number * fractions.Fraction(2) ** (length // 2 - 6 * j)
    return row


def expected(length, parts):
    for weight, number in enumerate(told_numbers(length, parts)):
        if number < 0 or number.denominator > 1:
            return ("weight", weight)
    return ("counts", tuple(int(number) for number in told_numbers(length, parts)))


class ShadowCounts(unittest.TestCase):
    def test_all_short_codes(self):
        for length in LENGTHS:
            for span, code in told(length):
                shades = [word for word in range(2 ** length)
                          if all(naive.even(word, one) == four(one) for one in span)]
                row = shadow_counts(code)
                self.assertIs(type(row), tuple)
                self.assertEqual(row, naive.counts(length, shades))
                self.assertEqual([sum(row), row], [2 ** (length // 2), row[::-1]])

    def test_longer_codes(self):
        for code in LONGER:
            least = least_shadow(code)
            row = naive.counts(code.length, [least ^ word for word in naive.sums(code.basis)])
            self.assertEqual(shadow_counts(code), row)
            self.assertEqual(row, row[::-1])

    def test_told_by_the_parts_of_the_counts(self):
        for code in [code for length in LENGTHS for _, code in told(length)] + list(LONGER):
            parts = parts_of(code)
            self.assertEqual(counts_or_weight(code.length, parts), ("counts", shadow_counts(code)))
            self.assertEqual(told_numbers(code.length, parts), list(shadow_counts(code)))
        seen = {}
        for code in codes(10):
            self.assertEqual(seen.setdefault(counts_of(code), shadow_counts(code)), shadow_counts(code))
        self.assertEqual(len(seen), 2)

    def test_pairs_alone(self):
        for code in [code for length in LENGTHS for _, code in told(length)] + list(LONGER):
            half_way = code.length // 2
            row = shadow_counts(code)
            least = min(weight for weight, number in enumerate(row) if number)
            self.assertLessEqual(least, half_way)
            self.assertIs(least == half_way, counts_of(code)[2] == half_way)
        for length in EVEN:
            row = [0] * (length + 1)
            row[length // 2] = 2 ** (length // 2)
            self.assertEqual(shadow_counts(plain(length)), tuple(row))

    def test_edges(self):
        self.assertEqual([shadow_counts(PAIR), shadow_counts(GOLAY) == counts_of(GOLAY)], [(0, 2, 0), True])
        self.assertEqual([shadow_counts(MIXED), shadow_counts(STRIP)],
                         [(0, 2, 0, 0, 0, 28, 0, 0, 0, 2, 0), (0, 0, 6, 0, 0, 0, 52, 0, 0, 0, 6, 0, 0)])


class CountsOrWeight(unittest.TestCase):
    def test_many_small_parts(self):
        answers = set()
        for length, limit in ((2, 9), (4, 9), (6, 9), (8, 40), (10, 30), (12, 40), (14, 30), (16, 12), (18, 10), (22, 9)):
            for parts in itertools.product(range(-limit, limit + 1), repeat=length // 8 + 1):
                if length > 8 and parts[0] not in (0, 1, 2, -1):
                    continue
                answer = counts_or_weight(length, parts)
                self.assertIs(type(answer), tuple)
                self.assertEqual(answer, expected(length, parts))
                answers.add(answer[0])
        self.assertEqual(answers, {"counts", "weight"})

    def test_longer_parts(self):
        source = random.Random(142)
        for length, most in itertools.product(EVEN, (70, 10 ** 5, MOST)):
            for _ in range(12):
                parts = tuple(source.choice((1, 1, 64, 4096)) * source.randint(-most // 4096, most // 4096)
                              for _ in range(length // 8 + 1))
                answer = counts_or_weight(length, parts)
                self.assertEqual(answer, expected(length, parts))
                self.assertIs(is_counts_or_weight(length, parts, answer), True)
            for parts in ((MOST,) * (length // 8 + 1), (-MOST,) * (length // 8 + 1)):
                self.assertEqual(counts_or_weight(length, parts), expected(length, parts))

    def test_nothing_but_the_answer_is_right(self):
        for length, parts in ((8, (1, 0)), (8, (1, -4)), (8, (1, -3)), (8, (1, -36)), (2, (1,)), (10, (1, -2)), (2, (-1,)),
                              (24, (1, -12, 30, 0)), (24, parts_of(GOLAY))):
            right = expected(length, parts)
            for weight in range(-1, length + 2):
                self.assertIs(is_counts_or_weight(length, parts, ("weight", weight)), right == ("weight", weight))
            self.assertIs(is_counts_or_weight(length, parts, right), True)
            for value in (None, True, 0, "counts", (), ("counts",), ("weight",), list(right), right + (0,), right[1:],
                          ("counts", None), ("counts", (0,) * (length + 1)), ("weight", None), ("weight", "0"),
                          (right[0],), ("count", right[1]), (right[1], right[0]), {right[0]: right[1]}, EIGHT,
                          ("counts", [0] * (length + 1)), ("weight", (0,)), ("weight", 10 ** 5000), (None, None)):
                self.assertIs(is_counts_or_weight(length, parts, value), False)
        row = (0, 2, 0)
        self.assertIs(is_counts_or_weight(2, (1,), ("counts", row)), True)
        self.assertIs(is_counts_or_weight(2, (1,), ("counts", list(row))), False)
        # True is equal to 1, False to 0, but they are no integers
        self.assertIs(is_counts_or_weight(2, (1,), ("counts", (False, 2, 0))), False)
        self.assertIs(is_counts_or_weight(8, (1, -3), ("weight", 0)), True)
        self.assertIs(is_counts_or_weight(8, (1, -3), ("weight", False)), False)
        self.assertIs(is_counts_or_weight(2, (-1,), ("weight", 1)), True)
        self.assertIs(is_counts_or_weight(2, (-1,), ("weight", True)), False)

    def test_what_is_refused(self):
        for length in (0, 1, 3, 9, 23, 25, 26, -8, True, None, "8", (8,), 10 ** 59):
            for call in (lambda: counts_or_weight(length, (1, 0)), lambda: is_counts_or_weight(length, None, None)):
                with self.assertRaises(InvalidNumber) as caught:
                    call()
                self.assertIs(caught.exception.given, length)
        for length in EVEN:
            many = length // 8 + 1
            for parts in ((1,) * (many + 1), (1,) * (many - 1), [1] * many, (True,) * many, (None,) * many, None, 1, "1",
                          (10 ** 60,) * many, (0,) * (many - 1) + (-10 ** 60,), ((1,),) * many, {0: 1}):
                for call in (lambda: counts_or_weight(length, parts), lambda: is_counts_or_weight(length, parts, None)):
                    with self.assertRaises(InvalidOperation):
                        call()


class Beside(unittest.TestCase):
    def test_all_that_have_the_half(self):
        for length in (4, 8):
            every = [code for _, code in told(length)]
            for code in every:
                if is_by_fours(code):
                    continue
                inner = half(code)
                found = [one for one in every if does_hold(one, inner) and one != code]
                answer = beside(code)
                self.assertIs(type(answer), tuple)
                self.assertEqual(answer, tuple(sorted(found, key=lambda one: one.basis)))

    def test_against_all_neighbours(self):
        for code in [code for _, code in told(4)] + some(143, (8, 12, 16), 6) + list(SIXTEEN[:4]) + list(LISTS[12]):
            if is_by_fours(code):
                continue
            one, other = beside(code)
            near = neighbours(code)
            inner = half(code)
            self.assertEqual([kept for kept in near if does_hold(kept, inner)], [one, other])
            self.assertEqual([distance(code, one), distance(code, other), distance(one, other)], [1, 1, 1])
            if code.length % 8 == 0:
                self.assertEqual([kept for kept in near if is_by_fours(kept)], [one, other])
            else:
                self.assertFalse(is_by_fours(one) or is_by_fours(other))
                for kept, then in ((one, other), (other, one)):
                    self.assertEqual(beside(kept), tuple(sorted((code, then), key=lambda found: found.basis)))

    def test_longer_codes(self):
        for code in some(144, (20, 24), 4) + [plain(24), plain(20)]:
            one, other = beside(code)
            self.assertTrue(one.basis < other.basis)
            self.assertTrue(is_own(one) and is_own(other))
            self.assertTrue(does_hold(one, half(code)) and does_hold(other, half(code)))
            self.assertEqual([distance(code, one), distance(code, other), distance(one, other)], [1, 1, 1])
            self.assertEqual([is_by_fours(one), is_by_fours(other)], [code.length == 24] * 2)

    def test_what_is_refused(self):
        for length in (2, 6, 10, 14, 18, 22):
            for code in (plain(length), some(145, (length,), 1)[0]):
                with self.assertRaises(Refused) as caught:
                    beside(code)
                self.assertEqual(caught.exception.reason, ("length",))
        for code in (EIGHT, LONG_STRIP, GOLAY, SIXTEEN[4]):
            for call in (beside, raised):
                with self.assertRaises(Refused) as caught:
                    call(code)
                self.assertEqual(caught.exception.reason, ("fours",))


class Raised(unittest.TestCase):
    def longer(self, code):
        return side_by_side((code,) + (PAIR,) * (-code.length % 8 // 2))

    def test_by_fours_and_beside_the_longer_code(self):
        for code in [code for length in LENGTHS for _, code in told(length)] + list(LONGER):
            if is_by_fours(code):
                continue
            answer = raised(code)
            self.assertEqual(answer, beside(self.longer(code)))
            self.assertEqual([len(answer), answer[0].length % 8], [2, 0])
            self.assertTrue(0 <= answer[0].length - code.length < 8)
            self.assertTrue(all(is_own(one) and is_by_fours(one) for one in answer))
            self.assertTrue(answer[0].basis < answer[1].basis)

    def test_against_all_neighbours(self):
        for code in [code for length in LENGTHS for _, code in told(length)[:20]] + [SEVENS, plain(14), MIXED, STRIP]:
            if not is_by_fours(code):
                near = [one for one in neighbours(self.longer(code)) if is_by_fours(one)]
                self.assertEqual(list(raised(code)), near)

    def test_what_they_show_at_the_first_places(self):
        for code in [code for length in LENGTHS for _, code in told(length)] + some(146, (10, 12, 14), 2):
            if not is_by_fours(code):
                for one in raised(code):
                    cut = {word % 2 ** code.length for word in naive.sums(one.basis)}
                    self.assertNotIn(None, {quarter_of(code, word) for word in cut})

    def test_the_parents_by_fours(self):
        seen = []
        for code in [code for _, code in told(6)] + some(147, (14,), 4):
            found = [one for one in parents(code) if is_by_fours(one)]
            self.assertEqual(list(raised(code)), sorted(found, key=lambda one: one.basis))
            if code.length == 6:
                seen += [one.basis for one in found]
        self.assertEqual([len(seen), len(set(seen))], [2 * count_of(6)] * 2)

    def test_edges(self):
        self.assertEqual(raised(PLAIN), beside(PLAIN))
        self.assertEqual([one.length for one in raised(PAIR)], [8, 8])
        self.assertEqual(raised(PAIR), raised(plain(6)))
        self.assertEqual([one.length for one in raised(plain(18)) + raised(plain(24))], [24] * 4)


class Untrue(unittest.TestCase):
    """What [14.6] calls untrue."""

    def test_whole_counts_that_no_shadow_has(self):
        self.assertEqual(counts_or_weight(10, (1, -2)), ("counts", (0, 1, 0, 0, 0, 30, 0, 0, 0, 1, 0)))
        self.assertNotIn(row_by(10, (1, -2)), {counts_of(code) for code in codes(10)})
        self.assertNotIn((0, 1, 0, 0, 0, 30, 0, 0, 0, 1, 0), {shadow_counts(code) for code in codes(10)})

    def test_codes_beside_that_are_not_by_fours(self):
        self.assertEqual([is_by_fours(code) for code in beside(plain(4)) + beside(STRIP)], [False] * 4)

    def test_equal_counts_of_shadows_and_not_alike(self):
        one, other = SIXTEEN[4], LONG_STRIP
        self.assertEqual(shadow_counts(one), shadow_counts(other))
        self.assertIsNone(exchange_or_none(one, other))
        self.assertEqual(len(shadow(kinds.beside(EIGHT, PAIR))), 32)


if __name__ == "__main__":
    unittest.main()
