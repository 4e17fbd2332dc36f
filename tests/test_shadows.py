"""[0.12] and [13.1] to [13.7]: shadows and quarters, held against a look at all words."""

import functools
import itertools
import random
import unittest

from ownchecks.errors import InvalidNumber, InvalidWord, Refused, TooMany
from ownchecks.four.families import is_by_fours
from ownchecks.four.shadows import is_shadow_or_word, least_shadow, quarter_of, quarter_products, quarters, shadow
from ownchecks.four.shadows import shadow_or_word
from ownchecks.same.exchanges import exchanged
from ownchecks.same.parts import side_by_side
from tests import naive
from tests.kinds import EIGHT, GOLAY, LISTS, LONG_STRIP, MIXED, PAIR, PLAIN, SEVENS, SIXTEEN, STRIP, beside, mixed_up
from tests.kinds import plain, some, told

LENGTHS = (2, 4, 6, 8)
LONGER = tuple(some(131, range(10, 26, 2), 2)) + LISTS[14] + SIXTEEN + (GOLAY, plain(24), beside(EIGHT, LONG_STRIP))


def four(word):
    return naive.ones(word) % 4 == 0


@functools.lru_cache(None)
def words_of_shadow(length, span):
    """The words that are even with each word of the half, and with no other word of the code."""
    return frozenset(word for word in range(2 ** length) if all(naive.even(word, one) == four(one) for one in span))


@functools.lru_cache(None)
def words_of_quarters(length, span):
    """The quarters 0 to 3: the words that are even with the half, parted by sums."""
    inner = frozenset(word for word in span if four(word))
    shades = words_of_shadow(length, span)
    one = frozenset(min(shades) ^ word for word in inner)
    return inner, one, span - inner, shades - one


def not_by_fours():
    for length in LENGTHS:
        for span, code in told(length):
            if not all(four(word) for word in span):
                yield length, span, code


class ShadowOrWord(unittest.TestCase):
    def test_all_short_codes(self):
        for length in LENGTHS:
            for span, code in told(length)[::1 if length < 8 else 6]:
                shades = words_of_shadow(length, span)
                for word in range(2 ** length):
                    answer = shadow_or_word(code, word)
                    self.assertIs(type(answer), tuple)
                    if word in shades:
                        self.assertEqual(answer, ("shadow",))
                    else:
                        self.assertEqual([len(answer), answer[0]], [2, "word"])
                        self.assertIn(answer[1], span)
                        self.assertNotEqual(naive.even(word, answer[1]), four(answer[1]))
                    self.assertIs(is_shadow_or_word(code, word, ("shadow",)), word in shades)
                    self.assertIs(is_shadow_or_word(code, word, answer), True)

    def test_all_words_are_judged(self):
        for length in LENGTHS:
            for span, code in told(length)[::1 if length < 8 else 30]:
                for word in list(range(2 ** length))[::1 if length < 8 else 11]:
                    for one in range(-1, 2 ** length + 1):
                        right = one in span and naive.even(word, one) != four(one)
                        self.assertIs(is_shadow_or_word(code, word, ("word", one)), right)

    def test_longer_codes(self):
        source = random.Random(132)
        for code in LONGER:
            words = naive.sums(code.basis)
            for word in (0, least_shadow(code), source.randrange(2 ** code.length), source.choice(sorted(words)),
                         least_shadow(code) ^ source.choice(sorted(words))):
                shows = {one for one in words if naive.even(word, one) != four(one)}
                answer = shadow_or_word(code, word)
                self.assertTrue(answer == ("shadow",) if not shows else answer[1] in shows)
                self.assertIs(is_shadow_or_word(code, word, answer), True)
                self.assertIs(is_shadow_or_word(code, word, ("shadow",)), not shows)
                for one in source.sample(sorted(words), 2):
                    self.assertIs(is_shadow_or_word(code, word, ("word", one)), one in shows)

    def test_no_other_value_is_right(self):
        for value in (None, True, 0, "shadow", "word", (), ("shadow", 0), ["shadow"], ("shade",), ("word",), ("word", 12, 12),
                      ("word", None), ("word", True), ("word", "12"), ("word", (12,)), ["word", 12], ("word", 3), ("word", 5),
                      ("word", 268), ("word", -12), ("word", 10 ** 5000), (12, "word"), {"word": 12}, PLAIN, ("word", PLAIN),
                      ("word", 0), ("word", [12]), (None, 12)):
            self.assertIs(is_shadow_or_word(PLAIN, 1, value), False)
            self.assertIs(is_shadow_or_word(PLAIN, 85, value), False)
        self.assertIs(is_shadow_or_word(PLAIN, 1, ("word", 12)), True)
        self.assertIs(is_shadow_or_word(PLAIN, 85, ("shadow",)), True)
        self.assertIs(is_shadow_or_word(PLAIN, 1, ("shadow",)), False)
        self.assertIs(is_shadow_or_word(PLAIN, 85, ("word", 12)), False)


class Shadows(unittest.TestCase):
    def test_all_short_codes(self):
        for length in LENGTHS:
            for span, code in told(length):
                shades = words_of_shadow(length, span)
                self.assertEqual(shadow(code), tuple(sorted(shades)))
                self.assertEqual(least_shadow(code), min(shades))
                self.assertEqual(len(shades), 2 ** (length // 2))
                # one coset of the code, with weights as far from n / 2 as multiples of 4
                self.assertEqual(shades, {min(shades) ^ word for word in span})
                self.assertEqual({(naive.ones(word) - length // 2) % 4 for word in shades}, {0})
                self.assertIs(0 in shades, all(four(word) for word in span))
                self.assertIs(shades == span, is_by_fours(code))

    def test_longer_codes(self):
        for code in LONGER:
            words = naive.sums(code.basis)
            least = least_shadow(code)
            self.assertTrue(all(naive.even(least, word) == four(word) for word in words))
            shades = {least ^ word for word in words}
            self.assertEqual(min(shades), least)
            self.assertEqual({(naive.ones(word) - code.length // 2) % 4 for word in shades}, {0})
            self.assertIs(least == 0, is_by_fours(code))
            if code.length <= 16:
                self.assertEqual(shadow(code), tuple(sorted(shades)))
            else:
                with self.assertRaises(TooMany) as caught:
                    shadow(code)
                self.assertEqual(caught.exception.limit, 16)

    def test_side_by_side(self):
        codes = [pair for length in (2, 4, 6) for pair in told(length)[:5]] + [(frozenset(naive.sums(EIGHT.basis)), EIGHT)]
        for (one, code), (other, more) in itertools.product(codes, repeat=2):
            shades = {word + 2 ** code.length * then for word in words_of_shadow(code.length, one)
                      for then in words_of_shadow(more.length, other)}
            answer = side_by_side((code, more))
            self.assertEqual(shadow(answer), tuple(sorted(shades)))
            self.assertEqual(least_shadow(answer), least_shadow(code) + 2 ** code.length * least_shadow(more))

    def test_exchanged(self):
        source = random.Random(133)
        for length in (2, 4, 6):
            for span, code in told(length):
                for exchange in itertools.permutations(range(length)):
                    led = sorted(naive.led(exchange, word) for word in words_of_shadow(length, span))
                    self.assertEqual(shadow(exchanged(code, exchange)), tuple(led))
        for code in (PLAIN, EIGHT, MIXED, STRIP, SEVENS) + SIXTEEN:
            exchange = mixed_up(code.length, source)
            led = sorted(naive.led(exchange, word) for word in shadow(code))
            self.assertEqual(shadow(exchanged(code, exchange)), tuple(led))

    def test_edges(self):
        self.assertEqual([shadow(PAIR), shadow(plain(4)), least_shadow(plain(24))],
                         [(1, 2), (5, 6, 9, 10), sum(4 ** at for at in range(12))])
        self.assertEqual([least_shadow(EIGHT), least_shadow(GOLAY)], [0, 0])


class Quarters(unittest.TestCase):
    def test_all_short_codes(self):
        for length, span, code in not_by_fours():
            told_quarters = words_of_quarters(length, span)
            answer = quarters(code)
            self.assertIs(type(answer), tuple)
            self.assertEqual(answer, tuple(min(words) for words in told_quarters))
            for word in range(2 ** length):
                found = [at for at, words in enumerate(told_quarters) if word in words]
                self.assertEqual(quarter_of(code, word), found[0] if found else None)
                self.assertEqual(bool(found), all(naive.even(word, one) for one in told_quarters[0]))

    def test_sums(self):
        sums = ((0, 1, 2, 3), (1, 0, 3, 2), (2, 3, 0, 1), (3, 2, 1, 0))
        for length, span, code in not_by_fours():
            if length < 8:
                told_quarters = words_of_quarters(length, span)
                for one, other in itertools.product(range(4), repeat=2):
                    for word, then in itertools.product(told_quarters[one], told_quarters[other]):
                        self.assertEqual(quarter_of(code, word ^ then), sums[one][other])

    def test_products(self):
        for length, span, _ in not_by_fours():
            told_quarters, table = words_of_quarters(length, span), quarter_products(length)
            for one, other in itertools.product(range(4), repeat=2):
                words = list(itertools.product(sorted(told_quarters[one])[:9], sorted(told_quarters[other])[:9]))
                self.assertEqual({1 - naive.even(word, then) for word, then in words}, {table[one][other]})
        for length in range(2, 26, 2):
            odd = length // 2 % 2
            self.assertEqual(quarter_products(length),
                             ((0, 0, 0, 0), (0, odd, 1, 1 - odd), (0, 1, 0, 1), (0, 1 - odd, 1, odd)))

    def test_longer_codes(self):
        source = random.Random(134)
        for code in LONGER:
            if is_by_fours(code):
                continue
            least, table = quarters(code), quarter_products(code.length)
            words = naive.sums(code.basis)
            inner = [word for word in words if four(word)]
            self.assertEqual([least[0], least[1]], [0, least_shadow(code)])
            self.assertEqual(least[2], min(word for word in words if not four(word)))
            self.assertEqual(least[3], min(least[1] ^ word for word in words if not four(word)))
            self.assertEqual(least[1], min(least[1] ^ word for word in inner))
            for at, other in itertools.product(range(4), repeat=2):
                one, then = least[at] ^ source.choice(inner), least[other] ^ source.choice(inner)
                self.assertEqual([quarter_of(code, one), quarter_of(code, then)], [at, other])
                self.assertEqual(1 - naive.even(one, then), table[at][other])
            word = next(2 ** place for place in range(code.length)
                        if not all(naive.even(2 ** place, one) for one in inner))
            self.assertIsNone(quarter_of(code, word))

    def test_codes_by_fours_are_refused(self):
        for code in (EIGHT, LONG_STRIP, GOLAY, beside(EIGHT, EIGHT)):
            for call in (lambda: quarters(code), lambda: quarter_of(code, 0), lambda: quarter_of(code, 1)):
                with self.assertRaises(Refused) as caught:
                    call()
                self.assertEqual(caught.exception.reason, ("fours",))
            for word in (-1, 2 ** code.length, None, True):
                with self.assertRaises(InvalidWord):
                    quarter_of(code, word)

    def test_lengths(self):
        self.assertEqual([quarters(PAIR), quarters(plain(4))], [(0, 1, 3, 2), (0, 5, 3, 6)])
        self.assertEqual([quarter_of(PAIR, word) for word in range(4)], [0, 1, 3, 2])
        for length in (0, 1, 3, 7, 23, 25, 26, -2, True, None, "8", (8,), 10 ** 59):
            with self.assertRaises(InvalidNumber) as caught:
                quarter_products(length)
            self.assertIs(caught.exception.given, length)


class Untrue(unittest.TestCase):
    """What [13.7] calls untrue."""

    def test_a_shadow_that_is_no_code(self):
        self.assertNotIn(0, shadow(PLAIN))
        self.assertNotEqual(set(shadow(PLAIN)), naive.sums(shadow(PLAIN)))

    def test_an_odd_word_of_a_shadow(self):
        self.assertEqual([naive.ones(word) % 2 for word in shadow(PAIR)], [1, 1])

    def test_words_of_a_shadow_that_are_not_even_with_one_another(self):
        self.assertFalse(naive.even(1, 1))
        self.assertIn(False, {naive.even(one, other) for one, other in itertools.product(shadow(PLAIN), repeat=2)})

    def test_the_least_word_of_a_shadow_need_not_have_the_least_weight(self):
        # the twins of this strip are the places 0 and 11, 1 and 10 and so on, and words of the shadow
        code = exchanged(STRIP, (11, 0, 1, 10, 2, 9, 3, 8, 4, 7, 5, 6))
        self.assertEqual([least_shadow(code), min(naive.ones(word) for word in shadow(code))], [63, 2])


if __name__ == "__main__":
    unittest.main()
