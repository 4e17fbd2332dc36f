"""[0.12], [0.17] and [12.1] to [12.7]: codes by fours, held against all own codes of short lengths."""

import itertools
import math
import random
import unittest

from ownchecks.code.codes import Code, does_hold, is_own
from ownchecks.errors import InvalidCode, InvalidNumber, InvalidOperation, Refused, TooMany
from ownchecks.four.families import are_one_family, count_by_fours, count_by_fours_at, eights, fours_neighbour
from ownchecks.four.families import fours_or_word, half, is_by_fours, is_fours_or_word, is_way_by_fours
from ownchecks.four.families import neighbours_by_fours, way_by_fours
from ownchecks.near.neighbours import distance, neighbour, neighbours, shared
from ownchecks.same.exchanges import exchange_or_none, exchanged
from ownchecks.weigh.counts import counts_of
from tests import naive
from tests.kinds import EIGHT, GOLAY, LISTS, LONG_STRIP, PAIR, PLAIN, SIXTEEN, STRIP, beside, mixed_up, plain, some, told

LENGTHS = (2, 4, 6, 8)
BY_FOURS = (EIGHT, beside(EIGHT, EIGHT), LONG_STRIP, beside(EIGHT, EIGHT, EIGHT), beside(EIGHT, LONG_STRIP), GOLAY)


def four(word):
    return naive.ones(word) % 4 == 0


OTHERS = tuple(code for code in some(121, range(2, 26, 2), 2) if not all(four(word) for word in code.basis))
OTHERS += LISTS[14] + SIXTEEN[:4] + (STRIP, plain(24), beside(PLAIN, LONG_STRIP))


def all_by_fours():
    """All codes by fours of the length 8."""
    return [(span, code) for span, code in told(8) if all(four(word) for word in span)]


def led_by_fours(code, seed, steps):
    """A code by fours, some steps away from this one."""
    source = random.Random(seed)
    for _ in range(steps):
        word = 0
        while naive.ones(word) % 2 or word in naive.sums(code.basis):
            word = source.randrange(2 ** code.length)
        code = fours_neighbour(code, word)
    return code


class FoursOrWord(unittest.TestCase):
    def test_all_short_codes(self):
        for length in LENGTHS:
            for span, code in told(length):
                shows = {word for word in span if not four(word)}
                self.assertIs(is_by_fours(code), not shows)
                answer = fours_or_word(code)
                self.assertIs(type(answer), tuple)
                if shows:
                    self.assertEqual([len(answer), answer[0]], [2, "word"])
                    self.assertIn(answer[1], shows)
                else:
                    self.assertEqual(answer, ("fours",))
                self.assertIs(is_fours_or_word(code, ("fours",)), not shows)
                for word in range(-1, 2 ** length + 1):
                    self.assertIs(is_fours_or_word(code, ("word", word)), word in shows)

    def test_longer_codes(self):
        for code in BY_FOURS + OTHERS:
            words = naive.sums(code.basis)
            shows = {word for word in words if not four(word)}
            self.assertIs(is_by_fours(code), code in BY_FOURS)
            self.assertEqual(not shows, code in BY_FOURS)
            answer = fours_or_word(code)
            self.assertTrue(answer == ("fours",) if not shows else answer[1] in shows)
            self.assertIs(is_fours_or_word(code, answer), True)
            for word in random.Random(122).sample(sorted(words), 2):
                self.assertIs(is_fours_or_word(code, ("word", word)), word in shows)

    def test_no_other_value_is_right(self):
        for value in (None, True, 0, 3, "fours", "word", (), ("fours", 0), ["fours"], ("four",), ("word",), ("word", 3, 3),
                      ("word", None), ("word", True), ("word", "3"), ("word", (3,)), ["word", 3], ("word", 15), ("word", 5),
                      ("word", 259), ("word", -3), ("word", 10 ** 5000), ("fours", 3), (3, "word"), {"word": 3}, PLAIN,
                      ("word", PLAIN), (None, 3), ("word", 0), ("word", 255)):
            self.assertIs(is_fours_or_word(PLAIN, value), False)
            self.assertIs(is_fours_or_word(EIGHT, value), False)
        self.assertIs(is_fours_or_word(PLAIN, ("word", 3)), True)
        self.assertIs(is_fours_or_word(EIGHT, ("fours",)), True)
        self.assertIs(is_fours_or_word(PLAIN, ("fours",)), False)


class Halves(unittest.TestCase):
    def test_words_of_such_weights(self):
        for length in LENGTHS:
            for span, code in told(length):
                answer = half(code)
                self.assertEqual(naive.sums(answer.basis), {word for word in span if four(word)})
                self.assertEqual(answer.length, length)
        for code in BY_FOURS + OTHERS:
            answer = half(code)
            self.assertEqual(naive.sums(answer.basis), {word for word in naive.sums(code.basis) if four(word)})
            self.assertEqual(answer.dimension, code.dimension - (code not in BY_FOURS))
            self.assertIs(does_hold(code, answer), True)
        self.assertEqual([half(PAIR), half(EIGHT)], [Code(2, ()), EIGHT])


class HowMany(unittest.TestCase):
    def test_all_short_codes(self):
        for length in LENGTHS:
            many = len([code for _, code in told(length) if is_by_fours(code)])
            self.assertEqual(count_by_fours(length), many)
        for length in range(1, 25):
            expected = math.prod(2 ** at + 1 for at in range(length // 2 - 1)) if length % 8 == 0 else 0
            self.assertEqual(count_by_fours(length), expected)
        self.assertEqual([count_by_fours(length) for length in (1, 7, 8, 9, 16)], [0, 0, 30, 0, 9845550])

    def test_at_each_distance(self):
        for one, code in all_by_fours():
            for far in range(12):
                many = len([other for other, _ in all_by_fours() if naive.apart(one, other) == far])
                self.assertEqual(count_by_fours_at(8, far), many)
        for length in range(1, 25):
            every = [count_by_fours_at(length, far) for far in range(12)]
            self.assertEqual(sum(every), count_by_fours(length))
            if length % 8 == 0:
                # just as many are at an even distance as at an odd one
                self.assertEqual(sum(every[::2]), sum(every[1::2]))
                self.assertEqual(every[:2] + every[length // 2:], [1, 2 ** (length // 2 - 1) - 1] + [0] * (12 - length // 2))
            else:
                self.assertEqual(every, [0] * 12)

    def test_numbers_that_are_refused(self):
        for far in (12, 13, -1, True, False, None, "0", (0,), 10 ** 60):
            for length in (8, 24, 1):
                with self.assertRaises(InvalidNumber) as caught:
                    count_by_fours_at(length, far)
                self.assertIs(caught.exception.given, far)
        for length in (0, 25, -8, 32, True, None, "8", (8,), 8 * 10 ** 58):
            for call in (lambda: count_by_fours(length), lambda: eights(length), lambda: count_by_fours_at(length, 99)):
                with self.assertRaises(InvalidNumber) as caught:
                    call()
                self.assertIs(caught.exception.given, length)

    def test_eights(self):
        self.assertEqual([eights(8), eights(16), eights(24)],
                         [EIGHT, beside(EIGHT, EIGHT), beside(EIGHT, EIGHT, EIGHT)])
        for length in (8, 16, 24):
            self.assertTrue(is_own(eights(length)) and is_by_fours(eights(length)))
        for length in range(1, 25):
            if length % 8:
                with self.assertRaises(Refused) as caught:
                    eights(length)
                self.assertEqual(caught.exception.reason, ("length",))


class Neighbours(unittest.TestCase):
    def test_among_all_neighbours(self):
        for _, code in all_by_fours():
            expected = tuple(one for one in neighbours(code) if is_by_fours(one))
            answer = neighbours_by_fours(code)
            self.assertIs(type(answer), tuple)
            self.assertEqual([answer, len(answer)], [expected, 7])
        for code in BY_FOURS[1:3] + (led_by_fours(LONG_STRIP, 123, 3),):
            expected = tuple(one for one in neighbours(code) if is_by_fours(one))
            self.assertEqual([neighbours_by_fours(code), len(expected)], [expected, 127])
            self.assertEqual(list(expected), sorted(expected, key=lambda one: one.basis))

    def test_just_one_for_each_coset(self):
        for span, code in all_by_fours()[::3]:
            for word in range(256):
                if naive.ones(word) % 2 or word in span:
                    with self.assertRaises(InvalidOperation):
                        fours_neighbour(code, word)
                    continue
                answer = fours_neighbour(code, word)
                coset = {neighbour(code, word ^ one).basis for one in span if four(word ^ one)}
                self.assertEqual(coset, {answer.basis})
                self.assertTrue(is_by_fours(answer) and distance(code, answer) == 1)
                self.assertEqual(len({neighbour(code, word ^ one).basis for one in span}), 2)

    def test_longer_codes(self):
        source = random.Random(124)
        for code in BY_FOURS:
            words = naive.sums(code.basis)
            for _ in range(10):
                word = source.randrange(2 ** code.length)
                if naive.ones(word) % 2 == 0 and word not in words:
                    answer = fours_neighbour(code, word)
                    self.assertTrue(is_own(answer) and is_by_fours(answer) and distance(code, answer) == 1)
                    self.assertTrue({word ^ one for one in words} & naive.sums(answer.basis))
                else:
                    with self.assertRaises(InvalidOperation):
                        fours_neighbour(code, word)

    def test_lengths(self):
        for code in BY_FOURS[3:]:
            with self.assertRaises(TooMany) as caught:
                neighbours_by_fours(code)
            self.assertEqual(caught.exception.limit, 16)
        for code in OTHERS + (PLAIN, PAIR):
            for call in (lambda: neighbours_by_fours(code), lambda: fours_neighbour(code, 3)):
                with self.assertRaises(InvalidCode):
                    call()


class Ways(unittest.TestCase):
    def held(self, one, other):
        answer = way_by_fours(one, other)
        self.assertIs(type(answer), tuple)
        self.assertEqual([answer[0], answer[-1], len(answer)], [one, other, distance(one, other) + 1])
        self.assertTrue(all(is_by_fours(code) for code in answer))
        self.assertTrue(all(distance(code, then) == 1 for code, then in itertools.pairwise(answer)))
        self.assertIs(is_way_by_fours(one, other, answer), True)
        return answer

    def test_step_by_step(self):
        for (_, one), (_, other) in itertools.product(all_by_fours(), repeat=2):
            answer = self.held(one, other)
            self.assertIs(is_way_by_fours(one, other, answer[1:]), False)
            self.assertIs(is_way_by_fours(other, one, answer), one == other)
            self.assertIs(is_way_by_fours(other, one, answer[::-1]), True)
        for one, seed in itertools.product(BY_FOURS, range(3)):
            self.held(one, led_by_fours(one, seed, 2 * seed + 1))
        self.held(eights(24), GOLAY)

    def test_ways_of_any_number_of_codes(self):
        source = random.Random(125)
        codes = [code for _, code in all_by_fours()]
        near = {code.basis: neighbours_by_fours(code) for code in codes}
        for one in codes[::4]:
            steps = [one]
            for _ in range(6):
                steps.append(source.choice(near[steps[-1].basis]))
                self.assertIs(is_way_by_fours(one, steps[-1], tuple(steps)), True)
                self.assertIs(is_way_by_fours(one, steps[-1], tuple(steps) + (steps[-1],)), False)
            self.assertIs(is_way_by_fours(one, one, (one,)), True)
            self.assertIs(is_way_by_fours(one, one, (one, near[one.basis][0], one)), True)
            self.assertIs(is_way_by_fours(one, one, (one, one)), False)

    def test_other_values_are_no_ways(self):
        other = fours_neighbour(EIGHT, 3)
        plain_one = next(code for code in neighbours(EIGHT) if not is_by_fours(code) and distance(code, other) == 1)
        for value in (None, True, 0, "", "way", (), [EIGHT, other], (EIGHT,), (other,), (EIGHT, EIGHT), (other, EIGHT),
                      (EIGHT, plain_one, other), (EIGHT, None, other), (EIGHT, other, EIGHT), (EIGHT, other, None),
                      ((EIGHT, other),), (EIGHT.basis, other.basis), (EIGHT, LONG_STRIP, other), {0: EIGHT, 1: other},
                      (EIGHT, Code(8, ()), other), (None, other), (EIGHT, True), EIGHT, 5000 * (1,)):
            self.assertIs(is_way_by_fours(EIGHT, other, value), False)
        self.assertIs(is_way_by_fours(EIGHT, other, (EIGHT, other)), True)
        self.assertIs(is_way_by_fours(EIGHT, EIGHT, ()), False)


class Families(unittest.TestCase):
    def test_two_of_them(self):
        codes = [code for _, code in all_by_fours()]
        for one in codes:
            found = [are_one_family(one, other) for other in codes]
            self.assertEqual([found.count(True), found.count(False)], [15, 15])
            self.assertEqual(found, [distance(one, other) % 2 == 0 for other in codes])
            self.assertFalse(any(are_one_family(one, other) for other in neighbours_by_fours(one)))

    def test_three_distances_of_an_even_sum(self):
        codes = [code for _, code in all_by_fours()]
        for one, other, third in itertools.combinations(codes, 3):
            self.assertEqual((distance(one, other) + distance(other, third) + distance(one, third)) % 2, 0)
        for code in BY_FOURS:
            for seed in range(3):
                other, third = led_by_fours(code, seed, 2), led_by_fours(code, seed + 9, 3)
                self.assertIs(are_one_family(code, other), True)
                self.assertIs(are_one_family(code, third), False)
                self.assertIs(are_one_family(third, other), False)

    def test_codes_of_unlike_lengths(self):
        for one, other in ((EIGHT, LONG_STRIP), (LONG_STRIP, GOLAY), (GOLAY, EIGHT)):
            for call in (lambda: are_one_family(one, other), lambda: way_by_fours(one, other),
                         lambda: is_way_by_fours(one, other, None)):
                with self.assertRaises(InvalidOperation):
                    call()
        for one, other in ((EIGHT, PLAIN), (PLAIN, EIGHT), (EIGHT, PAIR), (PAIR, EIGHT), (GOLAY, plain(24))):
            for call in (lambda: are_one_family(one, other), lambda: way_by_fours(one, other),
                         lambda: is_way_by_fours(one, other, (one, other))):
                with self.assertRaises(InvalidCode):
                    call()


class Untrue(unittest.TestCase):
    """What [12.7] and [0.20] call untrue."""

    def test_two_that_share_0_and_all_alone(self):
        other = next(code for _, code in all_by_fours() if distance(EIGHT, code) == 3)
        self.assertEqual([shared(EIGHT, other).basis, count_by_fours_at(8, 3)], [(255,), 8])

    def test_two_neighbours_by_fours_are_no_neighbours(self):
        for code in (EIGHT, LONG_STRIP):
            for one, other in itertools.combinations(neighbours_by_fours(code)[:8], 2):
                self.assertEqual(distance(one, other), 2)

    def test_alike_codes_of_unlike_families(self):
        other = fours_neighbour(EIGHT, 3)
        self.assertIs(are_one_family(EIGHT, other), False)
        self.assertIsNotNone(exchange_or_none(EIGHT, other))

    def test_a_neighbour_that_is_not_by_fours(self):
        found = [is_by_fours(code) for code in neighbours(EIGHT)]
        self.assertEqual([found.count(True), found.count(False)], [7, 7])
        code = exchanged(EIGHT, mixed_up(8, random.Random(126)))
        self.assertEqual([is_by_fours(code), counts_of(code)], [True, counts_of(EIGHT)])


if __name__ == "__main__":
    unittest.main()
