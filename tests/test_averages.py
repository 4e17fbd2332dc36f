"""[16.1] to [16.5]: words in the mean, lighter words of all neighbours, and walks to clear or stuck codes."""

import functools
import itertools
import math
import random
import unittest
from fractions import Fraction

from ownchecks.code.codes import Code
from ownchecks.near.averages import clearing, count_with, does_clear, is_clearing, lighter, lighter_in_all, mean_counts
from ownchecks.near.averages import neighbour_sum
from ownchecks.near.every import count_of
from ownchecks.near.neighbours import distance, neighbours
from ownchecks.near.within import codes_around, count_around
from ownchecks.weigh.counts import counts_of
from tests import naive
from tests.kinds import EIGHT, GOLAY, LISTS, LONG_STRIP, MIXED, PAIR, PLAIN, SIXTEEN, TWO_STRIPS, plain, some, told

LENGTHS = (2, 4, 6, 8)
LONGER = tuple(some(161, range(10, 18, 2), 3)) + SIXTEEN + LISTS[14]


def bounds(length):
    return range(2, length + 1, 2)


def light(words, bound):
    """The words of even weights from 2 to below the bound."""
    return [word for word in words if 2 <= naive.ones(word) < bound and naive.ones(word) % 2 == 0]


def beside(span):
    """All neighbours, by the distances of all own codes."""
    length = 2 * naive.dimension(span)
    return [other for other in naive.own_codes(length) if naive.apart(span, other) == 1]


@functools.lru_cache(None)
def few(span, bound):
    return len(light(span, bound))


@functools.lru_cache(None)
def beside_with(span, bound):
    """How many lighter words each of the neighbours has."""
    return [few(other, bound) for other in beside(span)]


class InTheMean(unittest.TestCase):
    def test_in_how_many_codes_a_word_is(self):
        for length in LENGTHS:
            spans = naive.own_codes(length)
            for word in range(2 ** length):
                answer = count_with(length, word)
                self.assertIs(type(answer), int)
                self.assertEqual(answer, len([span for span in spans if word in span]))

    def test_in_how_many_of_each_length(self):
        source = random.Random(162)
        for length in range(2, 26, 2):
            most = 2 ** length - 1
            m = length // 2 - 1
            every = math.prod(2 ** at + 1 for at in range(1, m + 1))
            self.assertEqual([count_with(length, 0), count_with(length, most)], [every, every])
            for word in [source.randrange(1, most) for _ in range(40)] + [1, most - 1, most ^ 3] + [3] * (length > 2):
                if naive.ones(word) % 2:
                    self.assertEqual(count_with(length, word), 0)
                elif word not in (0, most):
                    self.assertEqual(count_with(length, word), math.prod(2 ** at + 1 for at in range(1, m)))
                    self.assertEqual(count_with(length, word) * (2 ** m + 1), every)
        self.assertEqual([count_with(2, word) for word in range(4)], [1, 0, 0, 1])

    def test_codes_around_the_word(self):
        for length in (2, 4, 6, 8):
            for word in range(2 ** length):
                self.assertEqual(count_with(length, word), count_around(Code(length, (word,))))
        for word in range(1024):
            self.assertEqual(count_with(10, word), count_around(Code(10, (word,))))
        found = codes_around(Code(8, (15,)))
        self.assertEqual(count_with(8, 15), len(found))

    def test_means_by_all_codes(self):
        for length in LENGTHS:
            spans = naive.own_codes(length)
            rows = [naive.counts(length, span) for span in spans]
            means = mean_counts(length)
            self.assertIs(type(means), tuple)
            self.assertEqual(len(means), length + 1)
            for weight, mean in enumerate(means):
                told_mean = Fraction(sum(row[weight] for row in rows), len(spans))
                self.assertEqual(mean, (told_mean.numerator, told_mean.denominator))
                self.assertEqual([type(mean), type(mean[0]), type(mean[1])], [tuple, int, int])

    def test_means_of_each_length(self):
        for length in range(2, 26, 2):
            means = mean_counts(length)
            self.assertEqual([means[0], means[length]], [(1, 1), (1, 1)])
            for weight, (top, bottom) in enumerate(means):
                self.assertEqual((math.gcd(top, bottom), bottom > 0), (1, True))
                if weight % 2:
                    self.assertEqual((top, bottom), (0, 1))
                elif 0 < weight < length:
                    mean = Fraction(math.comb(length, weight), 2 ** (length // 2 - 1) + 1)
                    self.assertEqual(Fraction(top, bottom), mean)
            # each own code has as many words
            self.assertEqual(sum(Fraction(top, bottom) for top, bottom in means), 2 ** (length // 2))


class Lighter(unittest.TestCase):
    def test_by_a_look_at_all_words(self):
        for length in LENGTHS:
            for bound in bounds(length):
                self.assertEqual(lighter_in_all(length, bound), len(light(range(2 ** length), bound)))
                self.assertIs(type(lighter_in_all(length, bound)), int)
                for span, code in told(length):
                    self.assertEqual(lighter(code, bound), few(span, bound))
                    self.assertIs(type(lighter(code, bound)), int)

    def test_longer_codes(self):
        for code in LONGER + (GOLAY, plain(24)):
            span = naive.sums(code.basis)
            for bound in bounds(code.length):
                self.assertEqual(lighter(code, bound), len(light(span, bound)))
        for length in range(2, 26, 2):
            for bound in bounds(length):
                many = sum(math.comb(length, weight) for weight in range(2, bound, 2))
                self.assertEqual(lighter_in_all(length, bound), many)
                self.assertIs(does_clear(length, bound), many < 2 ** (length // 2 - 1) + 1)
            self.assertEqual([lighter_in_all(length, 2), does_clear(length, 2)], [0, True])
        self.assertEqual([lighter(GOLAY, 8), lighter(GOLAY, 10), lighter(GOLAY, 24)], [0, 759, 4094])

    def test_neighbours_together(self):
        for length in LENGTHS:
            for bound in bounds(length):
                many = lighter_in_all(length, bound)
                for span, code in told(length):
                    numbers = beside_with(span, bound)
                    self.assertEqual(neighbour_sum(code, bound), sum(numbers))
                    self.assertIs(type(neighbour_sum(code, bound)), int)
                    if length > 2:
                        fewer = Fraction(sum(numbers), len(numbers)) < few(span, bound)
                        self.assertIs(fewer, many < few(span, bound) * (2 ** (length // 2 - 1) + 1))

    def test_in_how_many_neighbours(self):
        for length in LENGTHS[1:]:
            m = length // 2 - 1
            for span in naive.own_codes(length)[::1 if length < 8 else 9]:
                others = beside(span)
                for word in light(range(2 ** length), length):
                    many = len([other for other in others if word in other])
                    self.assertEqual(many, 2 * (2 ** (m - 1) - 1) if word in span else 1)

    def test_longer_neighbours_together(self):
        for code in LONGER:
            rows = [counts_of(other) for other in neighbours(code)]
            for bound in bounds(code.length):
                self.assertEqual(neighbour_sum(code, bound), sum(sum(row[2:bound:2]) for row in rows))
        self.assertEqual(neighbour_sum(PAIR, 2), 0)
        self.assertEqual(neighbour_sum(GOLAY, 8), sum(math.comb(24, weight) for weight in (2, 4, 6)))
        self.assertEqual(neighbour_sum(plain(24), 4), 2046 * 12 + 276 - 12)


class Clearing(unittest.TestCase):
    def fewer(self, span, bound):
        return any(number < few(span, bound) for number in beside_with(span, bound))

    def check_walk(self, code, bound, answer):
        """A walk, step by step."""
        self.assertEqual((type(answer), len(answer), type(answer[1])), (tuple, 2, tuple))
        kind, steps = answer
        self.assertEqual(steps[0], code)
        spans = [naive.sums(one.basis) for one in steps]
        for one, other in itertools.pairwise(spans):
            self.assertEqual(naive.apart(one, other), 1)
            self.assertLess(len(light(other, bound)), len(light(one, bound)))
        last = light(spans[-1], bound)
        self.assertEqual(kind, "stuck" if last else "clear")
        if last:
            rows = [counts_of(other) for other in neighbours(steps[-1])]
            self.assertFalse([row for row in rows if sum(row[2:bound:2]) < len(last)])
        self.assertIs(is_clearing(code, bound, answer), True)
        other = "clear" if last else "stuck"
        self.assertIs(is_clearing(code, bound, (other, steps)), False)

    def test_walks_of_short_codes(self):
        found = set()
        for length in LENGTHS:
            for bound in bounds(length):
                for span, code in told(length)[::1 if length < 8 else 4]:
                    answer = clearing(code, bound)
                    self.check_walk(code, bound, answer)
                    found.add((answer[0], len(answer[1])))
                    if does_clear(length, bound):
                        self.assertEqual(answer[0], "clear")
                        self.assertIs(self.fewer(span, bound), few(span, bound) > 0)
        self.assertEqual(found, {("clear", 1), ("clear", 2), ("stuck", 1), ("stuck", 2)})

    def test_walks_of_longer_codes(self):
        for code in LONGER:
            for bound in bounds(code.length)[:5]:
                self.check_walk(code, bound, clearing(code, bound))
        self.assertEqual({clearing(code, 4)[0] for code in SIXTEEN}, {"clear"})

    def test_all_short_walks_are_judged(self):
        for bound in (4, 6, 8):
            for start in (PLAIN, EIGHT, told(8)[50][1]):
                first = naive.sums(start.basis)
                for span, code in told(8):
                    near = naive.apart(first, span) == 1 and few(span, bound) < few(first, bound)
                    ends = near and not self.fewer(span, bound)
                    clear = few(span, bound) == 0
                    self.assertIs(is_clearing(start, bound, ("clear", (start, code))), ends and clear)
                    self.assertIs(is_clearing(start, bound, ("stuck", (start, code))), ends and not clear)
                    self.assertIs(is_clearing(start, bound, ("clear", (code,))), code == start and clear)
                    stuck = code == start and not clear and not self.fewer(span, bound)
                    self.assertIs(is_clearing(start, bound, ("stuck", (code,))), stuck)

    def test_other_walks_are_right_too(self):
        kind, steps = clearing(SIXTEEN[0], 4)
        self.assertGreater(len(steps), 2)
        last = steps[-1]
        ahead = steps[-2]
        others = [one for one in neighbours(ahead) if lighter(one, 4) == 0]
        self.assertGreater(len(others), 1)
        for one in others:
            self.assertIs(is_clearing(SIXTEEN[0], 4, (kind, steps[:-1] + (one,))), True)
        for wrong in (steps[1:], steps[:-1], steps[:1], steps + (last,), steps[:1] + steps, steps[:-1] + (ahead, last),
                      steps[:-2] + (last,), tuple(reversed(steps)), list(steps), ()):
            self.assertIs(is_clearing(SIXTEEN[0], 4, ("clear", wrong)), False)
            self.assertIs(is_clearing(SIXTEEN[0], 4, ("stuck", wrong)), False)
        # as few lighter words again, by a neighbour, and more
        more = [one for one in neighbours(ahead) if lighter(one, 4) >= lighter(ahead, 4) > 0]
        for one in more[:20]:
            if distance(one, last) == 1:
                self.assertIs(is_clearing(SIXTEEN[0], 4, (kind, steps[:-1] + (one, last))), False)

    def test_no_other_value_is_right(self):
        for value in (None, True, 0, "clear", (), ("clear",), ["clear", (EIGHT,)], ("Clear", (EIGHT,)), ("clear", EIGHT),
                      ("clear", [EIGHT]), ("clear", (EIGHT, EIGHT)), ("clear", (EIGHT,), ()), ("clear", ()), ("stuck", ()),
                      ("clear", (None,)), ("clear", (EIGHT, None)), ("clear", (EIGHT.basis,)), ("stuck", (EIGHT,)),
                      ("clear", (PLAIN,)), ("clear", (PLAIN, EIGHT)), (None, (EIGHT,)), ((EIGHT,), "clear"),
                      {"clear": (EIGHT,)}, ("clear", (Code(8, (15,)),)), ("clear", (plain(10),)), ("clear", 10 ** 5000),
                      ("clear", (EIGHT,) * 3000)):
            self.assertIs(is_clearing(EIGHT, 4, value), False)
        self.assertIs(is_clearing(EIGHT, 4, ("clear", (EIGHT,))), True)
        self.assertIs(is_clearing(PLAIN, 4, ("clear", (PLAIN, EIGHT))), True)
        self.assertIs(is_clearing(PLAIN, 4, ("clear", (PLAIN, EIGHT, EIGHT))), False)
        self.assertIs(is_clearing(PLAIN, 4, ("clear", (PLAIN, Code(8, (15,))))), False)
        self.assertIs(is_clearing(PLAIN, 4, ("clear", (PLAIN, PAIR))), False)

    def test_edges(self):
        self.assertEqual(clearing(PAIR, 2), ("clear", (PAIR,)))
        for length in range(2, 18, 2):
            self.assertEqual(clearing(plain(length), 2), ("clear", (plain(length),)))
        self.assertEqual(clearing(plain(4), 4), ("stuck", (plain(4),)))
        self.assertEqual(clearing(LONG_STRIP, 16)[0], "stuck")
        self.assertEqual(clearing(TWO_STRIPS, 4), ("clear", (TWO_STRIPS,)))


class Untrue(unittest.TestCase):
    """[16.5]"""

    def test_a_clear_code_where_there_are_many_lighter_words(self):
        self.assertEqual((does_clear(8, 4), lighter(EIGHT, 4), lighter_in_all(8, 4)), (False, 0, 28))
        self.assertEqual((does_clear(24, 8), lighter(GOLAY, 8)), (False, 0))

    def test_fewer_to_one_bound_need_not_be_fewer_to_a_lesser_one(self):
        self.assertEqual(distance(EIGHT, PLAIN), 1)
        self.assertLess(lighter(PLAIN, 6), lighter(EIGHT, 6))
        self.assertGreater(lighter(PLAIN, 4), lighter(EIGHT, 4))

    def test_no_code_has_as_many_fours_as_the_mean_says(self):
        self.assertEqual(mean_counts(8)[4], (70, 9))
        self.assertEqual({counts_of(code)[4] for _, code in told(8)}, {6, 14})
        self.assertEqual(mean_counts(10)[4], (210, 17))
        self.assertEqual({counts_of(code)[4] for code in LISTS[10]}, {10, 14})
        self.assertEqual(count_of(8) * 70 // 9, 105 * 6 + 30 * 14)
        self.assertEqual(counts_of(MIXED)[4], 14)


if __name__ == "__main__":
    unittest.main()
