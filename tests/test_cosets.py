"""[19.1] to [19.7]: cosets, their products, leaders, counts and parents, held against a look at all words."""

import itertools
import random
import unittest

from ownchecks.base.spans import product, remainder_of
from ownchecks.code.cosets import coset_of, farthest, is_leader, leader, leaders, least_weights, nearest, parent_counts
from ownchecks.code.cosets import products_of, radius, signed_counts, word_with
from ownchecks.errors import InvalidOperation
from ownchecks.near.every import child, parents
from ownchecks.weigh.counts import coset_counts, counts_of, least_weight, transformed
from tests import naive
from tests.kinds import EIGHT, LISTS, LONG_STRIP, MIXED, PAIR, SIXTEEN, STRIP, TWO_STRIPS, plain, some, told

LENGTHS = (2, 4, 6, 8)
LONGER = tuple(some(201, (10, 12, 14, 16), 2)) + (MIXED, STRIP, LONG_STRIP, TWO_STRIPS)


def all_cosets(length, span):
    """A dict of the cosets by their least words."""
    found = {}
    for word in range(2 ** length):
        coset = frozenset(word ^ one for one in span)
        found[min(coset)] = coset
    return found


def lightest(words):
    least = min(naive.ones(word) for word in words)
    return sorted(word for word in words if naive.ones(word) == least)


class Cosets(unittest.TestCase):
    def test_they_part_all_words(self):
        for length in LENGTHS:
            for span, code in told(length):
                cosets = all_cosets(length, span)
                seen = []
                for least, coset in cosets.items():
                    answer = coset_of(code, least)
                    self.assertEqual(answer, tuple(sorted(coset)))
                    self.assertIs(type(answer), tuple)
                    self.assertEqual(len(answer), 2 ** (length // 2))
                    self.assertEqual(len({naive.ones(word) % 2 for word in answer}), 1)
                    # just one word is a remainder, and it is the least one
                    self.assertEqual({remainder_of(length, code.basis, word) for word in answer}, {answer[0]})
                    seen += answer
                self.assertEqual(sorted(seen), list(range(2 ** length)))
                self.assertEqual(len(cosets), 2 ** (length // 2))
                odd = [least for least in cosets if naive.ones(least) % 2]
                self.assertEqual(2 * len(odd), len(cosets))

    def test_each_word_of_a_coset_tells_it(self):
        for length in LENGTHS:
            for span, code in told(length)[::1 if length < 8 else 15]:
                for word in range(2 ** length):
                    self.assertEqual(coset_of(code, word), tuple(sorted(word ^ one for one in span)))

    def test_products(self):
        for length in LENGTHS:
            for span, code in told(length)[::1 if length < 8 else 5]:
                found = {}
                for word in range(2 ** length):
                    answer = products_of(code, word)
                    self.assertEqual(answer, tuple(int(not naive.even(row, word)) for row in naive.basis(span)))
                    found.setdefault(answer, set()).add(word)
                self.assertEqual({frozenset(words) for words in found.values()}, set(all_cosets(length, span).values()))

    def test_each_row_of_bits_back(self):
        for length in LENGTHS:
            for span, code in told(length):
                seen = set()
                for bits in itertools.product((0, 1), repeat=length // 2):
                    word = word_with(code, bits)
                    self.assertIs(type(word), int)
                    self.assertEqual(products_of(code, word), bits)
                    self.assertEqual(word, min(word ^ one for one in span))
                    seen.add(word)
                self.assertEqual(seen, set(all_cosets(length, span)))

    def test_longer_codes(self):
        source = random.Random(202)
        for code in LONGER:
            span = naive.sums(code.basis)
            for word in [source.randrange(2 ** code.length) for _ in range(10)] + [0, 1, 2 ** code.length - 1]:
                coset = {word ^ one for one in span}
                self.assertEqual(coset_of(code, word), tuple(sorted(coset)))
                bits = products_of(code, word)
                self.assertEqual(bits, tuple(product(row, word) for row in code.basis))
                self.assertEqual(word_with(code, bits), min(coset))


class Leaders(unittest.TestCase):
    def test_leaders_by_a_look_at_all_words(self):
        for length in LENGTHS:
            for span, code in told(length):
                for coset in all_cosets(length, span).values():
                    light = lightest(coset)
                    for word in sorted(coset)[::1 if length < 8 else 5]:
                        self.assertEqual(leader(code, word), light[0])
                        self.assertIs(is_leader(code, word), word in light)
                        distances = {one: naive.ones(one ^ word) for one in span}
                        self.assertEqual(nearest(code, word),
                                         tuple(sorted(one for one in span if distances[one] == min(distances.values()))))
                        self.assertEqual(len(nearest(code, word)), len(light))

    def test_all_leaders_weights_and_radius(self):
        for length in LENGTHS:
            for span, code in told(length):
                cosets = all_cosets(length, span)
                found = [lightest(cosets[least])[0] for least in sorted(cosets)]
                self.assertEqual(leaders(code), tuple(found))
                weights = [naive.ones(word) for word in found]
                self.assertEqual(least_weights(code), tuple(weights.count(many) for many in range(max(weights) + 1)))
                self.assertEqual(radius(code), max(weights))
                self.assertEqual(farthest(code), sorted(cosets)[weights.index(max(weights))])
                self.assertEqual([type(leaders(code)), type(least_weights(code)), type(radius(code)), type(farthest(code))],
                                 [tuple, tuple, int, int])

    def test_light_ones(self):
        for code in [code for length in LENGTHS for _, code in told(length)[::1 if length < 8 else 9]] + list(LONGER[:4]):
            least = least_weight(code)
            row = counts_of(code)
            self.assertEqual(least_weights(code)[:2], (1, code.length - row[2]))
            for head in leaders(code):
                found = [word for word in coset_of(code, head) if naive.ones(word) == naive.ones(head)]
                if 2 * naive.ones(head) < least:
                    self.assertEqual(found, [head])
                if 2 * naive.ones(head) == least:
                    self.assertFalse([pair for pair in itertools.combinations(found, 2) if pair[0] & pair[1]])

    def test_the_radius_is_at_most_the_number_of_weights(self):
        for code in [code for length in LENGTHS for _, code in told(length)] + list(SIXTEEN) + list(LISTS[14]):
            weights = [weight for weight, number in enumerate(counts_of(code)) if weight and number]
            self.assertLessEqual(radius(code), len(weights))

    def test_longer_codes(self):
        for code in LONGER:
            span = naive.sums(code.basis)
            found = leaders(code)
            self.assertEqual(len(found), 2 ** (code.length // 2))
            least = [remainder_of(code.length, code.basis, word) for word in found]
            self.assertEqual(least, sorted(set(least)))
            for head in found[::9]:
                self.assertEqual(lightest({head ^ one for one in span})[0], head)
                self.assertEqual(leader(code, head ^ max(span)), head)
                self.assertIs(is_leader(code, head), True)
            weights = [naive.ones(word) for word in found]
            self.assertEqual(sum(least_weights(code)), len(found))
            self.assertEqual(least_weights(code)[-1], weights.count(max(weights)))
            self.assertEqual([radius(code), farthest(code)], [max(weights), least[weights.index(max(weights))]])

    def test_edges(self):
        self.assertEqual([coset_of(PAIR, 1), coset_of(PAIR, 3), leaders(PAIR), least_weights(PAIR)],
                         [(1, 2), (0, 3), (0, 1), (1, 1)])
        self.assertEqual([radius(PAIR), farthest(PAIR), nearest(PAIR, 1), products_of(PAIR, 2)], [1, 1, (0, 3), (1,)])
        for length in range(2, 18, 2):
            code = plain(length)
            self.assertEqual([leader(code, 0), nearest(code, 0), products_of(code, 0)], [0, (0,), (0,) * (length // 2)])
            self.assertEqual(coset_of(code, 0), tuple(sorted(naive.sums(code.basis))))
            self.assertEqual(radius(code), length // 2)
            self.assertIs(is_leader(code, 3), False)
            self.assertIs(is_leader(code, 0), True)

    def test_only_words_are_leaders(self):
        for value in (None, True, False, "0", (), (0,), [0], -1, 256, 10 ** 5000, -10 ** 5000, EIGHT, {0: 0}):
            self.assertIs(is_leader(EIGHT, value), False)


class Counts(unittest.TestCase):
    def test_signed_counts(self):
        for length in LENGTHS:
            for span, code in told(length):
                for least in all_cosets(length, span):
                    even = naive.counts(length, [one for one in span if naive.even(one, least)])
                    odd = naive.counts(length, [one for one in span if not naive.even(one, least)])
                    row = signed_counts(code, least)
                    self.assertEqual(row, tuple(a - b for a, b in zip(even, odd)))
                    # the counts of the coset, transformed, tell them
                    coset = naive.counts(length, [least ^ one for one in span])
                    self.assertEqual(naive.transformed(coset), tuple(2 ** (length // 2) * number for number in row))

    def test_all_cosets_together(self):
        for length in LENGTHS:
            for span, code in told(length)[::1 if length < 8 else 5]:
                rows = [coset_counts(code, least) for least in all_cosets(length, span)]
                self.assertEqual(tuple(map(sum, zip(*rows))), naive.counts(length, range(2 ** length)))

    def test_longer_codes(self):
        source = random.Random(203)
        for code in LONGER:
            span = naive.sums(code.basis)
            for word in [source.randrange(2 ** code.length) for _ in range(6)] + [0, 1]:
                even = naive.counts(code.length, [one for one in span if naive.even(one, word)])
                odd = naive.counts(code.length, [one for one in span if not naive.even(one, word)])
                row = signed_counts(code, word)
                self.assertEqual(row, tuple(a - b for a, b in zip(even, odd)))
                told_row = transformed(coset_counts(code, word))
                self.assertEqual(told_row, tuple(2 ** (code.length // 2) * number for number in row))


class Parents(unittest.TestCase):
    def parents_by(self, code, word):
        """The two parents of the coset of an odd word, among all parents."""
        span = naive.sums(code.basis)
        coset = {word ^ one for one in span}
        ahead = 2 ** code.length
        return [one for one in parents(code) if any(low + ahead in naive.sums(one.basis) or
                                                    low + 2 * ahead in naive.sums(one.basis) for low in coset)]

    def test_counts_against_the_parents(self):
        for length in LENGTHS:
            for span, code in told(length)[::{2: 1, 4: 1, 6: 1, 8: 27}[length]]:
                for least, coset in all_cosets(length, span).items():
                    if naive.ones(least) % 2:
                        found = self.parents_by(code, least)
                        self.assertEqual(len(found), 2)
                        for one in found:
                            self.assertEqual(parent_counts(code, least), counts_of(one))
                            self.assertEqual(child(one, length, length + 1), code)
                        for word in coset:
                            self.assertEqual(parent_counts(code, word), counts_of(found[0]))

    def test_all_counts_against_all_parents(self):
        for length in LENGTHS:
            for span, code in told(length)[::1 if length < 8 else 4]:
                rows = [parent_counts(code, least) for least in all_cosets(length, span) if naive.ones(least) % 2]
                self.assertEqual(sorted(rows * 2), sorted(counts_of(one) for one in parents(code)[1:]))

    def test_longer_codes(self):
        for code in LONGER[:4] + (MIXED, STRIP):
            found = parents(code)
            odd = [word for word in leaders(code) if naive.ones(word) % 2]
            rows = sorted([parent_counts(code, word) for word in odd] * 2)
            self.assertEqual(rows, sorted(counts_of(one) for one in found[1:]))
        row = parent_counts(LONG_STRIP, 1)
        self.assertEqual((len(row), sum(row)), (19, 512))

    def test_even_words_are_refused(self):
        for word in (0, 3, 5, 15, 255):
            with self.assertRaises(InvalidOperation):
                parent_counts(EIGHT, word)
        self.assertEqual(parent_counts(PAIR, 1), (1, 0, 2, 0, 1))
        self.assertEqual(type(parent_counts(PAIR, 2)), tuple)


class Untrue(unittest.TestCase):
    """[19.7]"""

    def test_a_sum_of_leaders_need_not_be_one(self):
        self.assertEqual([is_leader(EIGHT, word) for word in (3, 12, 3 ^ 12)], [True, True, False])

    def test_equal_least_weights_and_unlike_counts(self):
        # words of one pair of places and of two ones, in a code that has both pairs and an eight
        words = [word for word in leaders(MIXED) if naive.ones(word) == 2]
        self.assertEqual(len({coset_counts(MIXED, word) for word in words}), 2)

    def test_the_radius_need_not_be_the_number_of_weights(self):
        weights = [weight for weight, number in enumerate(counts_of(MIXED)) if weight and number]
        self.assertEqual((radius(MIXED), len(weights)), (3, 5))

    def test_equal_counts_and_unlike_least_weights(self):
        one, other = SIXTEEN[4], LONG_STRIP
        self.assertEqual(counts_of(one), counts_of(other))
        self.assertNotEqual(least_weights(one), least_weights(other))


if __name__ == "__main__":
    unittest.main()
