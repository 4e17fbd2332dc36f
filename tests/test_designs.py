"""[18.1] to [18.6]: times of lots, spread words, and meetings, held against a look at all words."""

import itertools
import math
import random
import unittest

from ownchecks.errors import InvalidNumber
from ownchecks.four.families import eights
from ownchecks.weigh.counts import counts_of
from ownchecks.weigh.designs import is_spread_or_lots, is_sure, meetings, most_spread, spread_or_lots, times_at
from tests import naive
from tests.kinds import EIGHT, GOLAY, LISTS, MIXED, PAIR, PLAIN, SEVENS, SIXTEEN, STRIP, TWO_STRIPS, plain
from tests.kinds import some, told
from tests.naive import mask

LENGTHS = (2, 4, 6, 8)
LONGER = tuple(some(181, range(10, 26, 2), 2)) + SIXTEEN + (MIXED, STRIP, SEVENS, GOLAY, plain(24), eights(24))


def of_weight(span, weight):
    return [word for word in span if naive.ones(word) == weight]


def times(words, lot):
    return len([word for word in words if word & mask(lot) == mask(lot)])


def all_times(words, length, t):
    """The times of all lots of t places."""
    return {lot: times(words, lot) for lot in itertools.combinations(range(length), t)}


def most_together(length):
    return min(length, 5)


def cases(step):
    """Triples of a length, a span and its code: all short ones, and each so many-th of the length 8."""
    for length in LENGTHS:
        for span, code in told(length)[::1 if length < 8 else step]:
            yield length, span, code


class Times(unittest.TestCase):
    def test_by_a_look_at_all_words(self):
        for length, span, code in cases(27):
            for weight in range(length + 1):
                words = of_weight(span, weight)
                for t in range(most_together(length) + 1):
                    for lot, many in all_times(words, length, t).items():
                        self.assertEqual(times_at(code, weight, lot), many)
        self.assertIs(type(times_at(PLAIN, 2, ())), int)

    def test_longer_codes(self):
        source = random.Random(182)
        for code in LONGER:
            span = naive.sums(code.basis)
            for weight in (0, 2, 4, 8, code.length - 4, code.length):
                words = of_weight(span, weight)
                self.assertEqual(times_at(code, weight, ()), counts_of(code)[weight])
                for t in range(6):
                    lot = tuple(sorted(source.sample(range(code.length), t)))
                    self.assertEqual(times_at(code, weight, lot), times(words, lot))

    def test_edges(self):
        self.assertEqual([times_at(PAIR, weight, (0, 1)) for weight in range(3)], [0, 0, 1])
        self.assertEqual([times_at(PAIR, weight, ()) for weight in range(3)], [1, 0, 1])
        self.assertEqual([times_at(GOLAY, 8, tuple(range(t))) for t in range(6)], [759, 253, 77, 21, 5, 1])
        self.assertEqual(times_at(GOLAY, 24, (0, 1, 22, 23)), 1)


class SpreadOrLots(unittest.TestCase):
    def test_spread_or_two_lots_never_both(self):
        found = set()
        for length, span, code in cases(5):
            for weight in range(length + 1):
                words = of_weight(span, weight)
                for t in range(most_together(length) + 1):
                    numbers = all_times(words, length, t)
                    answer = spread_or_lots(code, weight, t)
                    self.assertIs(type(answer), tuple)
                    found.add(answer[0])
                    if len(set(numbers.values())) == 1:
                        self.assertEqual(answer, ("spread", numbers[tuple(range(t))]))
                        self.assertIs(type(answer[1]), int)
                    else:
                        self.assertEqual((answer[0], len(answer)), ("unlike", 3))
                        self.assertNotEqual(numbers[answer[1]], numbers[answer[2]])
                    self.assertIs(is_spread_or_lots(code, weight, t, answer), True)
        self.assertEqual(found, {"spread", "unlike"})

    def test_all_lots_are_judged(self):
        for length, span, code in cases(67):
            for weight in range(0, length + 1, 2):
                words = of_weight(span, weight)
                for t in range(min(length, 3) + 1):
                    numbers = all_times(words, length, t)
                    for one, other in itertools.product(numbers, repeat=2):
                        right = numbers[one] != numbers[other]
                        self.assertIs(is_spread_or_lots(code, weight, t, ("unlike", one, other)), right)
                    for many in range(-1, max(numbers.values()) + 2):
                        right = set(numbers.values()) == {many}
                        self.assertIs(is_spread_or_lots(code, weight, t, ("spread", many)), right)

    def test_spread_by_fewer_places(self):
        for length, span, code in cases(9):
            for weight in range(length + 1):
                words = of_weight(span, weight)
                for t in range(most_together(length) + 1):
                    kind, *answer = spread_or_lots(code, weight, t)
                    if t > weight:
                        self.assertEqual((kind, answer), ("spread", [0]))
                    elif kind == "spread":
                        for s in range(t):
                            lot = tuple(range(s))
                            self.assertEqual(spread_or_lots(code, weight, s), ("spread", times(words, lot)))
                            self.assertEqual(times(words, lot) * math.comb(weight - s, t - s),
                                             answer[0] * math.comb(length - s, t - s))

    def test_the_most(self):
        for length, span, code in cases(5):
            for weight in range(length + 1):
                words = of_weight(span, weight)
                spread = [len(set(all_times(words, length, t).values())) == 1
                          for t in range(min(weight, most_together(length)) + 1)]
                most = max(t for t in range(len(spread)) if all(spread[:t + 1]))
                self.assertEqual(most_spread(code, weight), most)
                self.assertIs(type(most_spread(code, weight)), int)

    def test_the_other_side(self):
        for code in LONGER + tuple(code for _, _, code in cases(20)):
            for weight in range(code.length // 2 + 1):
                for t in range(min(weight, 5) + 1 if code.length < 17 else min(weight, 3) + 1):
                    kinds = {spread_or_lots(code, one, t)[0] for one in (weight, code.length - weight)}
                    self.assertEqual(len(kinds), 1)

    def test_longer_codes(self):
        for code in LONGER:
            span = naive.sums(code.basis)
            for weight in (2, 4, 6, 8):
                words = of_weight(span, weight)
                for t in (1, 2, 3) if code.length < 17 else (1, 2):
                    numbers = all_times(words, code.length, t)
                    answer = spread_or_lots(code, weight, t)
                    if len(set(numbers.values())) == 1:
                        self.assertEqual(answer, ("spread", numbers[tuple(range(t))]))
                    else:
                        self.assertNotEqual(numbers[answer[1]], numbers[answer[2]])
                    self.assertIs(is_spread_or_lots(code, weight, t, answer), True)
                    other = ("unlike", (0, 1, 2)[:t], (1, 2, 3)[:t])
                    right = numbers[other[1]] != numbers[other[2]]
                    self.assertIs(is_spread_or_lots(code, weight, t, other), right)

    def test_edges(self):
        for code in (PAIR, plain(4), PLAIN, EIGHT, GOLAY):
            self.assertEqual(spread_or_lots(code, 0, 0), ("spread", 1))
            self.assertEqual(spread_or_lots(code, code.length, 0), ("spread", 1))
            most = most_together(code.length)
            self.assertEqual(spread_or_lots(code, code.length, most), ("spread", 1))
            self.assertEqual(spread_or_lots(code, 1, most), ("spread", 0))
            self.assertEqual([most_spread(code, weight) for weight in (0, 1, code.length)], [0, 1, most])
            for t in (-1, most + 1):
                with self.assertRaises(InvalidNumber) as caught:
                    spread_or_lots(code, 0, t)
                self.assertEqual(caught.exception.given, t)
        # weights that the code does not have are spread by each number up to the weight
        self.assertEqual([most_spread(EIGHT, weight) for weight in range(9)], [0, 1, 2, 3, 3, 5, 5, 5, 5])
        self.assertEqual(spread_or_lots(GOLAY, 8, 5), ("spread", 1))
        self.assertEqual([most_spread(GOLAY, weight) for weight in (8, 12, 16)], [5, 5, 5])
        self.assertEqual(spread_or_lots(GOLAY, 12, 5), ("spread", 48))
        self.assertEqual([most_spread(code, 4) for code in SIXTEEN], [1, 0, 0, 0, 1, 1, 1])

    def test_no_other_value_is_right(self):
        for value in (None, True, 0, "spread", (), ("spread",), ["spread", 1], ("Spread", 1), ("spread", 1, 1), ("spread", True),
                      ("spread", "1"), ("spread", (1,)), ("spread", None), ("spread", 0), ("spread", 2), ("spread", -1),
                      ("spread", 10 ** 5000), ("unlike", (0, 1, 2), (0, 1, 3)), ("unlike", (), ()), (1, "spread"),
                      {"spread": 1}, ("spread", EIGHT), ("unlike",), ("unlike", 1), (None, 1)):
            self.assertIs(is_spread_or_lots(EIGHT, 4, 3, value), False)
        self.assertIs(is_spread_or_lots(EIGHT, 4, 3, ("spread", 1)), True)
        self.assertIs(is_spread_or_lots(EIGHT, 2, 3, ("spread", False)), False)
        for value in (("unlike", (0, 1)), ("unlike", (0, 1), (0, 2), ()), ["unlike", (0, 1), (0, 2)], ("unlike", [0, 1], (0, 2)),
                      ("unlike", (0, 1), [0, 2]), ("unlike", (1, 0), (0, 2)), ("unlike", (0, 1), (2, 0)), ("unlike", (0, 1), (0,)),
                      ("unlike", (0,), (0, 2)), ("unlike", (0, 1), (0, 2, 3)), ("unlike", (0, 1), (0, 8)), ("unlike", (0, 1), ()),
                      ("unlike", (False, 1), (0, 2)), ("unlike", (0, True), (0, 2)), ("unlike", (0, 1), None), ("unlike", 0, 1),
                      ("unlike", (0, 1), (2, 3)), ("unlike", (0, 2), (0, 3)), ("unlike", (0, 1), (0, 10 ** 5000)),
                      ("unlike", (0, 1), "02"), ("unlike", EIGHT, PLAIN), ("spread", 1), ("spread", 0), ("Unlike", (0, 1), (0, 2)),
                      ("unlike", (0, 1), (-1, 2)), ("unlike", (0, 1), (0, 0))):
            self.assertIs(is_spread_or_lots(PLAIN, 2, 2, value), False)
        for value in (("unlike", (0, 1), (0, 2)), ("unlike", (0, 2), (0, 1)), ("unlike", (5, 6), (6, 7))):
            self.assertIs(is_spread_or_lots(PLAIN, 2, 2, value), True)


class Sure(unittest.TestCase):
    def told_sure(self, length, span, t):
        """As [18.3] says."""
        weights = {naive.ones(word) for word in span if word}
        least = min(weights)
        return t < least and len([weight for weight in weights if weight <= length - t]) <= least - t

    def test_as_told(self):
        for length, span, code in cases(1):
            for t in range(most_together(length) + 1):
                self.assertIs(is_sure(code, t), self.told_sure(length, span, t))
        for code in LONGER + LISTS[14] + LISTS[12] + LISTS[10]:
            span = naive.sums(code.basis)
            for t in range(6):
                self.assertIs(is_sure(code, t), self.told_sure(code.length, span, t))

    def test_the_words_of_each_weight_are_spread(self):
        sure = 0
        for code in LONGER + tuple(code for _, _, code in cases(10)):
            span = naive.sums(code.basis)
            for t in range(most_together(code.length) + 1):
                if is_sure(code, t):
                    sure += 1
                    for weight in range(code.length + 1):
                        words = of_weight(span, weight)
                        if t < 3:
                            self.assertEqual(len(set(all_times(words, code.length, t).values())), 1)
                        self.assertEqual(spread_or_lots(code, weight, t)[0], "spread")
        self.assertGreater(sure, 30)

    def test_edges(self):
        self.assertEqual([is_sure(PAIR, t) for t in range(3)], [True, True, False])
        self.assertEqual([is_sure(GOLAY, t) for t in range(6)], [True] * 6)
        self.assertEqual([is_sure(EIGHT, t) for t in range(6)], [True, True, True, True, False, False])
        self.assertEqual([is_sure(code, 0) for code in (PLAIN, plain(4), plain(6), GOLAY)], [False, True, False, True])


class Meetings(unittest.TestCase):
    def test_by_a_look_at_all_words(self):
        for length, span, code in cases(67):
            for weight in range(length + 1):
                words = of_weight(span, weight)
                for word in range(2 ** length):
                    row = [0] * (length + 1)
                    for one in words:
                        row[naive.ones(one & word)] += 1
                    self.assertEqual(meetings(code, weight, word), tuple(row))
        for code in LONGER:
            span = naive.sums(code.basis)
            for word in (0, 1, 2 ** code.length - 1, 4 ** (code.length // 2) // 3, 1000 % 2 ** code.length):
                for weight in (0, 4, 8, code.length):
                    row = meetings(code, weight, word)
                    self.assertEqual((type(row), len(row)), (tuple, code.length + 1))
                    told_row = [naive.ones(one & word) for one in of_weight(span, weight)]
                    self.assertEqual(row, tuple(told_row.count(many) for many in range(code.length + 1)))

    def test_sums(self):
        source = random.Random(183)
        for length, span, code in list(cases(20)) + [(24, naive.sums(GOLAY.basis), GOLAY)]:
            for weight in (2, 4, 8):
                if weight > length:
                    continue
                words = of_weight(span, weight)
                for word in (0, 2 ** length - 1, source.randrange(2 ** length), source.randrange(2 ** length)):
                    row = meetings(code, weight, word)
                    places = [place for place in range(length) if word >> place & 1]
                    for s in range(min(length, 3 if length < 9 else 2) + 1):
                        total = sum(math.comb(many, s) * number for many, number in enumerate(row))
                        self.assertEqual(total, sum(times(words, lot) for lot in itertools.combinations(places, s)))
                        kind, *answer = spread_or_lots(code, weight, s)
                        if kind == "spread":
                            self.assertEqual(total, math.comb(naive.ones(word), s) * answer[0])


class Untrue(unittest.TestCase):
    """[18.6]"""

    def test_spread_but_not_surely(self):
        self.assertEqual((spread_or_lots(PLAIN, 2, 1), is_sure(PLAIN, 1)), (("spread", 1), False))
        self.assertEqual((spread_or_lots(TWO_STRIPS, 4, 1)[0], is_sure(TWO_STRIPS, 1)), ("spread", False))

    def test_one_weight_is_spread_and_another_one_is_not(self):
        self.assertEqual([spread_or_lots(MIXED, weight, 1)[0] for weight in (10, 2)], ["spread", "unlike"])
        code = SIXTEEN[3]
        self.assertEqual([spread_or_lots(code, weight, 1)[0] for weight in (16, 2)], ["spread", "unlike"])

    def test_spread_by_three_but_not_by_four(self):
        self.assertEqual([spread_or_lots(EIGHT, 4, t)[0] for t in (3, 4)], ["spread", "unlike"])


if __name__ == "__main__":
    unittest.main()
