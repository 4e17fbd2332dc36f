"""[0.10], [6.1], [6.2] and [6.6]: exchanges and alike codes, held against a look at all exchanges of few places."""

import itertools
import math
import random
import unittest

from ownchecks.code.codes import Code, is_own
from ownchecks.errors import InvalidOperation, TooMany
from ownchecks.near.every import code_by, count_of
from ownchecks.same.exchanges import alike_count, backward, does_keep, exchange_or_none, exchanged, is_exchange
from ownchecks.same.exchanges import is_exchange_or_none, led_word, one_behind, orbits_of, order_of, through
from ownchecks.same.exchanges import through_two
from ownchecks.weigh.counts import counts_of
from tests import kinds, naive
from tests.kinds import EIGHT, LONG_STRIP, MIXED, PAIR, PLAIN, SEVENS, SIXTEEN, STRIP, mixed_up, plain, told

LENGTHS = (2, 4, 6, 8)


class Exchanges(unittest.TestCase):
    def test_which_values_are(self):
        for length in range(1, 5):
            right = set(itertools.permutations(range(length)))
            for many in range(length + 2):
                for value in itertools.product(range(-1, length + 1), repeat=many):
                    self.assertIs(is_exchange(length, value), value in right)
        for length in range(1, 25):
            self.assertIs(is_exchange(length, tuple(range(length))), True)
            self.assertIs(is_exchange(length, tuple(range(length - 1, -1, -1))), True)
            self.assertIs(is_exchange(length, tuple(range(1, length + 1))), False)
            self.assertIs(is_exchange(length, tuple(range(length - 1))), False)
            self.assertIs(is_exchange(length, tuple(range(length + 1))), False)

    def test_no_other_value_is(self):
        for value in (None, 0, True, "01", [0, 1], {0: 0, 1: 1}, (0, True), (False, 1), (0, None), ("0", "1"), (0, [1]),
                      (0, (1,)), ((0, 1),), (0, 10 ** 5000), (0, -10 ** 5000), (0, {}), (0, PAIR), PAIR, 5000 * (0,)):
            self.assertIs(is_exchange(2, value), False)
        self.assertIs(is_exchange(1, (False,)), False)
        self.assertIs(is_exchange(1, (0,)), True)

    def test_backward(self):
        for length in range(1, 7):
            for exchange in itertools.permutations(range(length)):
                back = backward(exchange)
                self.assertIs(type(back), tuple)
                self.assertEqual([back[exchange[place]] for place in range(length)], list(range(length)))
                self.assertEqual(one_behind(exchange, back), tuple(range(length)))
                self.assertEqual(one_behind(back, exchange), tuple(range(length)))

    def test_one_behind(self):
        for length in range(1, 5):
            for one, other in itertools.product(itertools.permutations(range(length)), repeat=2):
                both = one_behind(one, other)
                self.assertEqual(both, tuple(other[one[place]] for place in range(length)))
                for word in range(2 ** length):
                    self.assertEqual(led_word(both, word), led_word(other, led_word(one, word)))

    def test_led_words(self):
        for length in range(1, 6):
            for exchange in itertools.permutations(range(length)):
                for word in range(2 ** length):
                    led = led_word(exchange, word)
                    self.assertEqual(led, naive.led(exchange, word))
                    self.assertEqual(naive.ones(led), naive.ones(word))
                    self.assertEqual(led_word(backward(exchange), led), word)

    def test_products_stay(self):
        for exchange in itertools.permutations(range(4)):
            for one, other in itertools.product(range(16), repeat=2):
                led = led_word(exchange, one), led_word(exchange, other)
                self.assertEqual(naive.even(*led), naive.even(one, other))
                self.assertEqual(led_word(exchange, one ^ other), led[0] ^ led[1])

    def test_the_greatest_number_of_places(self):
        around = tuple((place + 1) % 24 for place in range(24))
        self.assertEqual(backward(around), tuple((place - 1) % 24 for place in range(24)))
        self.assertEqual(one_behind(around, around), tuple((place + 2) % 24 for place in range(24)))
        self.assertEqual([led_word(around, 2 ** 23 + 5), led_word(around, 2 ** 24 - 1)], [11, 2 ** 24 - 1])
        self.assertEqual([backward((0,)), one_behind((0,), (0,)), led_word((0,), 1)], [(0,), (0,), 1])
        for exchange in (tuple(range(25)), ()):
            for call in (backward, lambda value: one_behind(value, value), lambda value: led_word(value, 0)):
                with self.assertRaises(InvalidOperation):
                    call(exchange)


class Led(unittest.TestCase):
    def test_codes(self):
        for length in (2, 4, 6):
            for span, code in told(length):
                for exchange in itertools.permutations(range(length)):
                    expected = naive.led_code(exchange, span)
                    answer = exchanged(code, exchange)
                    self.assertEqual(answer, Code(length, naive.basis(expected)))
                    self.assertIs(does_keep(code, exchange), expected == span)
                    self.assertIs(is_own(answer), True)

    def test_longer_codes(self):
        source = random.Random(61)
        for length in range(8, 26, 2):
            for _ in range(3):
                code = code_by(length, source.randrange(count_of(length)))
                one, other = mixed_up(length, source), mixed_up(length, source)
                answer = exchanged(code, one)
                self.assertEqual(answer, Code(length, tuple(naive.led(one, word) for word in code.basis)))
                self.assertEqual(exchanged(answer, backward(one)), code)
                self.assertEqual(exchanged(answer, other), exchanged(code, one_behind(one, other)))
                self.assertIs(does_keep(code, one), answer == code)
                self.assertIs(does_keep(code, tuple(range(length))), True)

    def test_two_that_keep(self):
        kept = naive.keepers(6, naive.own_codes(6)[3])
        code = told(6)[3][1]
        for one, other in itertools.product(kept, repeat=2):
            self.assertIs(does_keep(code, one_behind(one, other)), True)
        self.assertTrue(all(does_keep(code, backward(one)) for one in kept))
        self.assertLess(len(kept), math.factorial(6))


class Alike(unittest.TestCase):
    def is_leading(self, one, other, exchange):
        words = {naive.led(exchange, word) for word in naive.sums(one.basis)}
        return sorted(exchange) == list(range(one.length)) and words == naive.sums(other.basis)

    def test_alike_or_not(self):
        for length in LENGTHS:
            numbers = naive.classes(length)
            codes = told(length)
            for (one, code), (other, more) in itertools.product(codes[::6], codes):
                answer = exchange_or_none(code, more)
                self.assertEqual(answer is not None, numbers[one] == numbers[other])
                if answer is not None:
                    self.assertIs(type(answer), tuple)
                    self.assertEqual(naive.led_code(answer, one), other)
                    self.assertEqual(counts_of(code), counts_of(more))
                self.assertIs(is_exchange_or_none(code, more, answer), True)
                self.assertIs(is_exchange_or_none(code, more, None), answer is None)

    def test_all_exchanges_are_judged(self):
        for length in (2, 4, 6):
            for (one, code), (other, more) in itertools.product(told(length)[:3], told(length)):
                for exchange in itertools.permutations(range(length)):
                    expected = naive.led_code(exchange, one) == other
                    self.assertIs(is_exchange_or_none(code, more, exchange), expected)
        source = random.Random(62)
        for _ in range(200):
            exchange = mixed_up(8, source)
            self.assertIs(is_exchange_or_none(PLAIN, EIGHT, exchange), False)
            self.assertIs(is_exchange_or_none(EIGHT, exchanged(EIGHT, exchange), exchange), True)

    def test_each_kind_of_the_greatest_length(self):
        source = random.Random(63)
        for one, other in itertools.product(SIXTEEN, repeat=2):
            led = exchanged(other, mixed_up(16, source))
            answer = exchange_or_none(one, led)
            self.assertEqual(answer is None, one != other)
            if one == other:
                self.assertTrue(self.is_leading(one, led, answer))
            self.assertIs(is_exchange_or_none(one, led, answer), True)
            self.assertIs(is_exchange_or_none(one, led, None), answer is None)

    def test_led_codes_are_alike(self):
        source = random.Random(64)
        for length in (10, 12, 14, 16):
            for _ in range(6):
                code = code_by(length, source.randrange(count_of(length)))
                exchange = mixed_up(length, source)
                led = exchanged(code, exchange)
                answer = exchange_or_none(code, led)
                self.assertTrue(self.is_leading(code, led, answer))
                self.assertIs(is_exchange_or_none(code, led, exchange), True)
                for place in range(length):
                    self.assertEqual(through(code, place), through(led, exchange[place]))
                    other = (place + 3) % length
                    self.assertEqual(through_two(code, place, other),
                                     through_two(led, exchange[place], exchange[other]))

    def test_a_code_and_itself(self):
        for code in (PAIR, PLAIN, EIGHT, MIXED, STRIP, SEVENS) + SIXTEEN:
            self.assertIs(does_keep(code, exchange_or_none(code, code)), True)
            self.assertIs(is_exchange_or_none(code, code, tuple(range(code.length))), True)
            self.assertIs(is_exchange_or_none(code, code, None), False)

    def test_how_many_are_alike(self):
        for length in LENGTHS:
            numbers = list(naive.classes(length).values())
            for span, code in told(length):
                self.assertEqual(alike_count(code), numbers.count(naive.classes(length)[span]))
        for code in (PLAIN, EIGHT, MIXED, STRIP, SEVENS) + SIXTEEN:
            self.assertEqual(alike_count(code) * order_of(code), math.factorial(code.length))

    def test_all_kinds_add_up_to_all_codes(self):
        pairs = kinds.beside(PAIR, PAIR)
        for codes in ((pairs,), (PLAIN, EIGHT), (MIXED, kinds.beside(PAIR, PLAIN)),
                      (kinds.beside(pairs, PLAIN), kinds.beside(pairs, EIGHT), STRIP),
                      (kinds.beside(pairs, PAIR, PLAIN), kinds.beside(pairs, PAIR, EIGHT), kinds.beside(PAIR, STRIP),
                       SEVENS), SIXTEEN):
            self.assertEqual(sum(alike_count(code) for code in codes), count_of(codes[0].length))

    def test_no_other_value_is_right(self):
        one, other = EIGHT, exchanged(EIGHT, (1, 2, 3, 4, 5, 6, 7, 0))
        for value in (True, False, 0, "", "none", (), (1,), [1, 2, 3, 4, 5, 6, 7, 0], (1, 2, 3, 4, 5, 6, 7),
                      (1, 2, 3, 4, 5, 6, 7, 0, 8), (True, 2, 3, 4, 5, 6, 7, 0), (1, 2, 3, 4, 5, 6, 7, False),
                      (None,) * 8, (1,) * 8, (1, 2, 3, 4, 5, 6, 7, 8), ((1, 2, 3, 4, 5, 6, 7, 0),),
                      (1, 2, 3, 4, 5, 6, [7], 0), (1, 2, 3, 4, 5, 6, 7, 10 ** 5000), {1: 2}, one,
                      ("exchange", (1, 2, 3, 4, 5, 6, 7, 0)), None):
            self.assertIs(is_exchange_or_none(one, other, value), False)
        self.assertIs(is_exchange_or_none(one, other, (1, 2, 3, 4, 5, 6, 7, 0)), True)
        for value in (False, (), [], 0, "", ((),), (0,), tuple(range(8))):
            self.assertIs(is_exchange_or_none(PLAIN, EIGHT, value), False)
        self.assertIs(is_exchange_or_none(PLAIN, EIGHT, None), True)

    def test_lengths(self):
        self.assertEqual(exchange_or_none(PAIR, PAIR) in ((0, 1), (1, 0)), True)
        for length in (18, 20, 22, 24):
            code = plain(length)
            for call in (lambda: exchange_or_none(code, code), lambda: is_exchange_or_none(code, code, None),
                         lambda: is_exchange_or_none(code, code, tuple(range(length)))):
                with self.assertRaises(TooMany) as caught:
                    call()
                self.assertEqual(caught.exception.limit, 16)
            self.assertIs(does_keep(code, (1, 0) + tuple(range(2, length))), True)


class Untrue(unittest.TestCase):
    """What [6.6] calls untrue."""

    def test_leading_the_lightest_words_to_such_ones_is_not_enough(self):
        exchange = naive.swapped(16, 0, 1)
        light = {word for word in naive.sums(LONG_STRIP.basis) if naive.ones(word) == 4}
        self.assertEqual(min(naive.ones(word) for word in naive.sums(LONG_STRIP.basis) if word), 4)
        self.assertEqual({naive.led(exchange, word) for word in light}, light)
        self.assertIs(does_keep(LONG_STRIP, exchange), False)

    def test_the_order_of_a_sum_is_not_the_product_of_the_orders(self):
        self.assertEqual([order_of(PAIR), order_of(kinds.beside(PAIR, PAIR)), order_of(PLAIN)], [2, 8, 384])
        self.assertEqual(order_of(SIXTEEN[4]), 2 * 1344 * 1344)

    def test_equal_words_through_places_of_unlike_orbits(self):
        code = kinds.beside(EIGHT, LONG_STRIP)
        self.assertEqual(len({through(code, place) for place in range(24)}), 1)
        # the words through two places tell that no exchange that keeps the code leads 0 to 8
        met = [sorted(through_two(code, place, other) for other in range(24) if other != place) for place in (0, 8)]
        self.assertNotEqual(met[0], met[1])

    def test_more_than_one_orbit(self):
        self.assertEqual(order_of(MIXED), 2 * 1344)
        self.assertEqual(orbits_of(MIXED), ((0, 1), (2, 3, 4, 5, 6, 7, 8, 9)))


if __name__ == "__main__":
    unittest.main()
