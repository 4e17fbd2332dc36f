"""[3.1] to [3.7]: counts, held against a look at all words."""

import itertools
import math
import random
import unittest

from ownchecks.base.spans import meet_of
from ownchecks.code.codes import Code, dual
from ownchecks.errors import TooMany
from ownchecks.weigh.counts import coset_counts, counts_of, dual_counts, dual_or_weight, least_weight, signs
from ownchecks.weigh.counts import transformed, words_of_weight, zero_lots
from tests import naive
from tests.kinds import EIGHT, small_codes

UNITS = tuple(2 ** place for place in range(24))
EVERY = 2 ** 24 - 1
PAIRS = tuple(3 * 4 ** at for at in range(12))
MOST = 10 ** 60 - 1


def made_rows(seed, most):
    """Rows of any integers, of each length there is."""
    source = random.Random(seed)
    for many in range(2, 26):
        for _ in range(6):
            yield tuple(source.randint(-most, most) for _ in range(many))


class Signs(unittest.TestCase):
    def test_even_words_less_the_others(self):
        for length in range(1, 9):
            for other in range(length + 1):
                told = 2 ** other - 1
                for weight in range(length + 1):
                    fitting = [word for word in range(2 ** length) if naive.ones(word) == weight]
                    even = len([word for word in fitting if naive.even(word, told)])
                    self.assertEqual(signs(length, weight, other), 2 * even - len(fitting))

    def test_whichever_word_of_the_weight(self):
        for told in range(64):
            for weight in range(7):
                fitting = [word for word in range(64) if naive.ones(word) == weight]
                even = len([word for word in fitting if naive.even(word, told)])
                self.assertEqual(signs(6, weight, naive.ones(told)), 2 * even - len(fitting))

    def test_told_sum(self):
        for length in range(1, 25):
            for weight, other in itertools.product(range(length + 1), repeat=2):
                told = sum((-1) ** at * math.comb(other, at) * math.comb(length - other, weight - at)
                           for at in range(weight + 1))
                self.assertEqual(signs(length, weight, other), told)
                self.assertEqual(told, naive.power_row(length, other)[weight])

    def test_edges(self):
        self.assertEqual([signs(1, 0, 0), signs(1, 0, 1), signs(1, 1, 0), signs(1, 1, 1)], [1, 1, 1, -1])
        self.assertEqual([signs(24, 12, 0), signs(24, 24, 1), signs(24, 24, 24), signs(24, 0, 24)],
                         [math.comb(24, 12), -1, 1, 1])
        self.assertEqual([signs(24, 1, 24), signs(24, 12, 1)], [-24, 0])


class Transformed(unittest.TestCase):
    def test_told_sum(self):
        for row in itertools.chain(made_rows(31, 50), made_rows(32, MOST)):
            length = len(row) - 1
            told = tuple(sum(row[at] * signs(length, weight, at) for at in range(length + 1))
                         for weight in range(length + 1))
            self.assertEqual(transformed(row), told)
            self.assertEqual(told, naive.transformed(row))

    def test_twice(self):
        for row in made_rows(33, 10 ** 50):
            length = len(row) - 1
            self.assertEqual(transformed(transformed(row)), tuple(2 ** length * number for number in row))
        for row in itertools.product(range(-2, 3), repeat=4):
            self.assertEqual(transformed(transformed(row)), tuple(8 * number for number in row))

    def test_counts_of_the_dual(self):
        for length, span, code in small_codes(1, 5):
            row = naive.counts(length, naive.checks(length, span))
            self.assertEqual(transformed(counts_of(code)), tuple(len(span) * number for number in row))
            self.assertEqual(dual_counts(code), row)
        for length, words in naive.made_tuples(34, range(6, 25), 24, 4):
            code = Code(length, words)
            told = tuple(2 ** code.dimension * number for number in dual_counts(code))
            self.assertEqual(transformed(counts_of(code)), told)
            self.assertEqual(dual_counts(code), counts_of(dual(code)))

    def test_edges(self):
        self.assertEqual([transformed((0, 0)), transformed((1, 0)), transformed((0, 1)), transformed((-3, 5))],
                         [(0, 0), (1, 1), (1, -1), (2, -8)])
        self.assertEqual(transformed((1,) + (0,) * 24), tuple(math.comb(24, at) for at in range(25)))
        self.assertEqual(transformed((MOST, -MOST)), (0, 2 * MOST))
        self.assertEqual(transformed((MOST,) * 25)[0], 25 * MOST)


class Counts(unittest.TestCase):
    def test_of_all_short_codes(self):
        for length, span, code in small_codes(1, 5):
            self.assertEqual(counts_of(code), naive.counts(length, span))

    def test_of_each_dimension(self):
        source = random.Random(35)
        for dimension in range(17):
            for length in {dimension or 1, 16, 17, 20}:
                words = tuple(source.randrange(2 ** length) for _ in range(dimension))
                row = naive.counts(length, naive.sums(words))
                self.assertEqual(counts_of(Code(length, words)), row)
                self.assertEqual(dual_counts(dual(Code(length, words))), row)

    def test_of_the_greatest_dimensions(self):
        # each word of weight w of all, or of all even words
        every = tuple(math.comb(24, at) for at in range(25))
        even = tuple(number * (1 - at % 2) for at, number in enumerate(every))
        self.assertEqual(counts_of(Code(24, UNITS)), every)
        self.assertEqual(dual_counts(Code(24, ())), every)
        self.assertEqual(counts_of(dual(Code(24, (EVERY,)))), even)
        self.assertEqual(dual_counts(Code(24, (EVERY,))), even)
        self.assertEqual(counts_of(Code(24, UNITS[:13])), tuple(math.comb(13, at) for at in range(25)))
        self.assertEqual(counts_of(Code(24, UNITS[:12])), tuple(math.comb(12, at) for at in range(25)))

    def test_edges(self):
        self.assertEqual([counts_of(Code(1, ())), counts_of(Code(1, (1,))), counts_of(Code(24, ()))],
                         [(1, 0), (1, 1), (1,) + (0,) * 24])
        self.assertEqual([dual_counts(Code(1, ())), dual_counts(Code(1, (1,)))], [(1, 1), (1, 0)])
        self.assertEqual(counts_of(Code(24, PAIRS))[:5], (1, 0, 12, 0, 66))


class Cosets(unittest.TestCase):
    def test_of_all_short_codes(self):
        for length, span, code in small_codes(1, 4):
            for word in range(2 ** length):
                self.assertEqual(coset_counts(code, word), naive.counts(length, [word ^ one for one in span]))

    def test_of_longer_codes(self):
        source = random.Random(36)
        for length, words in naive.made_tuples(37, range(5, 19), 15, 3):
            code, span = Code(length, words), naive.sums(words)
            for word in (0, source.randrange(2 ** length), source.randrange(2 ** length), 2 ** length - 1):
                self.assertEqual(coset_counts(code, word), naive.counts(length, [word ^ one for one in span]))

    def test_by_signed_counts_of_the_dual(self):
        for length, span, code in small_codes(1, 4):
            checks = naive.checks(length, span)
            for word in range(2 ** length):
                signed = [0] * (length + 1)
                for check in checks:
                    signed[naive.ones(check)] += 1 if naive.even(check, word) else -1
                told = tuple(len(checks) * number for number in coset_counts(code, word))
                self.assertEqual(transformed(tuple(signed)), told)

    def test_edges(self):
        self.assertEqual(coset_counts(Code(24, ()), EVERY), (0,) * 24 + (1,))
        self.assertEqual(coset_counts(Code(24, UNITS), 5), counts_of(Code(24, UNITS)))
        even = dual(Code(24, (EVERY,)))
        self.assertEqual(coset_counts(even, 7), tuple(math.comb(24, at) * (at % 2) for at in range(25)))
        self.assertEqual([coset_counts(Code(1, ()), 1), coset_counts(Code(1, (1,)), 1)], [(0, 1), (1, 1)])


class Weights(unittest.TestCase):
    def test_least_weight(self):
        for _, span, code in small_codes(1, 5):
            self.assertEqual(least_weight(code), min([naive.ones(word) for word in span if word], default=None))
        for length, words in naive.made_tuples(38, range(6, 25), 14, 3):
            told = min([naive.ones(word) for word in naive.sums(words) if word], default=None)
            self.assertEqual(least_weight(Code(length, words)), told)

    def test_least_weight_at_the_edges(self):
        self.assertIsNone(least_weight(Code(1, ())))
        self.assertIsNone(least_weight(Code(24, (0, 0))))
        self.assertEqual([least_weight(Code(24, (EVERY,))), least_weight(Code(24, UNITS)), least_weight(Code(1, (1,)))],
                         [24, 1, 1])
        self.assertEqual(least_weight(dual(Code(24, (EVERY,)))), 2)

    def test_words_of_weight(self):
        for length, span, code in small_codes(1, 5):
            for weight in range(length + 1):
                told = tuple(sorted(word for word in span if naive.ones(word) == weight))
                self.assertEqual(words_of_weight(code, weight), told)

    def test_most_words(self):
        for length, words in ((12, UNITS[:12]), (24, UNITS[12:]), (24, PAIRS)):
            span = naive.sums(words)
            for weight in (0, 1, 2, 7, length):
                told = tuple(sorted(word for word in span if naive.ones(word) == weight))
                self.assertEqual(words_of_weight(Code(length, words), weight), told)
        for code in (Code(13, UNITS[:13]), Code(24, PAIRS + (1,)), Code(24, UNITS)):
            for weight in (0, 1, code.length):
                with self.assertRaises(TooMany) as caught:
                    words_of_weight(code, weight)
                self.assertEqual(caught.exception.limit, 4096)


class ZeroLots(unittest.TestCase):
    def test_pairs_of_a_word_and_of_places(self):
        for length, span, code in small_codes(1, 5):
            for many in range(length + 1):
                pairs = [(word, lot) for word in span for lot in itertools.combinations(range(length), many)
                         if not any(word >> place & 1 for place in lot)]
                self.assertEqual(zero_lots(counts_of(code), many), len(pairs))

    def test_by_the_counts_of_the_dual(self):
        codes = [code for _, _, code in small_codes(1, 5)]
        codes += [Code(length, words) for length, words in naive.made_tuples(39, range(6, 25), 24, 2)]
        for code in codes:
            length, row = code.length, dual_counts(code)
            for many in range(length + 1):
                told = sum(math.comb(length - at, length - many) * row[at] for at in range(many + 1))
                self.assertEqual(zero_lots(counts_of(code), many) * 2 ** many, 2 ** code.dimension * told)

    def test_any_counts(self):
        for row in made_rows(40, MOST):
            length = len(row) - 1
            for many in range(length + 1):
                told = sum(math.comb(length - at, many) * row[at] for at in range(length + 1))
                self.assertEqual(zero_lots(row, many), told)

    def test_edges(self):
        self.assertEqual([zero_lots((5, -7), 0), zero_lots((5, -7), 1)], [-2, 5])
        self.assertEqual([zero_lots((1,) * 25, 24), zero_lots((1,) * 25, 0), zero_lots((2,) * 25, 23)], [1, 25, 50])


class FirstLook(unittest.TestCase):
    def told(self, row):
        if sum(row) not in [2 ** at for at in range(70)]:
            return ("sum",)
        for weight, number in enumerate(naive.transformed(row)):
            if number % sum(row) != 0:
                return ("part", weight)
            if number < 0:
                return ("below", weight)
        return ("dual", tuple(number // sum(row) for number in naive.transformed(row)))

    def test_counts_of_codes(self):
        for length, span, code in small_codes(1, 5):
            self.assertEqual(dual_or_weight(counts_of(code)), ("dual", dual_counts(code)))
            self.assertEqual(naive.counts(length, naive.checks(length, span)), dual_counts(code))
        for length, words in naive.made_tuples(41, range(6, 25), 24, 3):
            code = Code(length, words)
            self.assertEqual(dual_or_weight(counts_of(code)), ("dual", dual_counts(code)))

    def test_many_small_rows(self):
        kinds = {}
        for row in itertools.chain(itertools.product(range(-3, 9), repeat=2), itertools.product(range(-2, 6), repeat=3),
                                   itertools.product(range(-1, 5), repeat=4), itertools.product(range(3), repeat=6)):
            answer = dual_or_weight(row)
            self.assertEqual(answer, self.told(row))
            kinds[answer[0]] = kinds.get(answer[0], 0) + 1
        self.assertEqual(sorted(kinds), ["below", "dual", "part", "sum"])

    def test_what_goes_ahead(self):
        # of one weight: not divisible goes ahead of below 0; of unlike ones the lesser weight
        self.assertEqual(transformed((1, 0, 0, 3)), (4, -6, 12, -2))
        self.assertEqual(dual_or_weight((1, 0, 0, 3)), ("part", 1))
        self.assertEqual(transformed((0, 0, 1, 1)), (2, -4, 2, 0))
        self.assertEqual(dual_or_weight((0, 0, 1, 1)), ("below", 1))
        self.assertEqual(dual_or_weight((0, 0, 0, 0, 4, 4)), self.told((0, 0, 0, 0, 4, 4)))

    def test_edges(self):
        self.assertEqual([dual_or_weight((1, 0)), dual_or_weight((0, 1)), dual_or_weight((1, 1))],
                         [("dual", (1, 1)), ("below", 1), ("dual", (1, 0))])
        for row in ((0, 0), (-1, 0), (-1, -1), (0, -2), (3, 0), (-4, 0), (6, -9), (1, -1)):
            self.assertEqual(dual_or_weight(row), ("sum",))
        self.assertEqual(dual_or_weight((2 ** 190, 2 ** 190)), ("dual", (1, 0)))
        self.assertEqual(dual_or_weight((2 ** 190 + 1, 2 ** 190 - 1)), ("part", 1))
        self.assertEqual(dual_or_weight((MOST, 1 - MOST)), ("dual", (1, 2 * MOST - 1)))
        self.assertEqual(dual_or_weight((1,) + (0,) * 24)[1][12], math.comb(24, 12))


class Untrue(unittest.TestCase):
    """What [3.7] calls untrue."""

    def test_equal_counts_and_unlike_meets_with_the_duals(self):
        one, other = Code(6, (57, 5, 3)), Code(6, (48, 12, 3))
        self.assertEqual([counts_of(one), counts_of(other)], [(1, 0, 3, 0, 3, 0, 1)] * 2)
        met = [meet_of(6, code.basis, dual(code).basis) for code in (one, other)]
        self.assertEqual([len(basis) for basis in met], [1, 3])

    def test_the_counts_of_a_coset_do_not_tell_its_least_word(self):
        self.assertEqual(coset_counts(EIGHT, 1), coset_counts(EIGHT, 2))
        words = naive.sums(EIGHT.basis)
        self.assertEqual([min(word ^ one for one in words) for word in (1, 2)], [1, 2])

    def test_whole_counts_of_a_dual_and_no_code(self):
        self.assertEqual(dual_or_weight((1, 1, 1, 0, 0, 1, 0)), ("dual", (1, 2, 6, 4, 1, 2, 0)))
        self.assertEqual(dual_or_weight((2, 0)), ("dual", (1, 1)))
        for row in ((1, 1, 1, 0, 0, 1, 0), (1, 2, 6, 4, 1, 2, 0), (2, 0)):
            self.assertFalse([code for _, _, code in small_codes(len(row) - 1, len(row) - 1) if counts_of(code) == row])

    def test_the_least_weight_of_a_dual_can_be_less(self):
        for code in (Code(3, (7,)), Code(24, (EVERY,))):
            self.assertLess(least_weight(dual(code)), least_weight(code))


if __name__ == "__main__":
    unittest.main()
