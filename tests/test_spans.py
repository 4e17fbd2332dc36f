"""[0.8] and [1.2] to [1.5], [1.7]: spans, held against sets of words that are gone through in full."""

import itertools
import random
import unittest

from ownchecks.base.spans import basis_of, checks_of, free_places, is_parts_or_check, meet_of, parts_or_check
from ownchecks.base.spans import product, remainder_of, span_of, sum_of, weight
from ownchecks.errors import TooMany
from tests import naive

EVERY = 2 ** 24 - 1
UNITS = tuple(2 ** place for place in range(24))


class OneBasis(unittest.TestCase):
    def test_by_its_definition(self):
        known = {}
        for length, words in naive.small_tuples():
            span = naive.sums(words)
            if (length, span) not in known:
                known[length, span] = naive.basis(span)
            basis = known[length, span]
            self.assertEqual(basis_of(length, words), basis)
            taken = [word.bit_length() - 1 for word in basis]
            self.assertEqual(free_places(length, words), tuple(at for at in range(length) if at not in taken))

    def test_whichever_words_span_it(self):
        for span in naive.spans(4):
            basis = naive.basis(span)
            for words in (tuple(sorted(span)), tuple(sorted(span, reverse=True)), basis, basis[::-1], basis + basis):
                self.assertEqual(basis_of(4, words), basis)

    def test_longer_words(self):
        source = random.Random(7)
        for length, words in naive.made_tuples(1, range(5, 25), 9, 6):
            span = naive.sums(words)
            basis = naive.basis(span)
            self.assertEqual(basis_of(length, words), basis)
            mixed = list(words) + [0] + list(words[:3]) + [naive.total(words)]
            source.shuffle(mixed)
            self.assertEqual(basis_of(length, tuple(mixed)), basis)
            self.assertEqual(span_of(length, words), tuple(sorted(span)))

    def test_many_words(self):
        for length, words in naive.made_tuples(2, (16, 23, 24), 64, 12):
            basis = basis_of(length, words)
            tops = [naive.highest(word) for word in basis]
            self.assertEqual(basis, tuple(sorted(basis, reverse=True)))
            self.assertEqual(len(set(tops)), len(basis))
            for word, top in zip(basis, tops):
                self.assertEqual([at for at in tops if word >> at & 1], [top])
            for word in words:
                at_heads = naive.total(one for one, top in zip(basis, tops) if word >> top & 1)
                self.assertEqual(word, at_heads)
            for word in basis:
                kind, indices = parts_or_check(length, words, word)
                self.assertEqual(kind, "parts")
                self.assertEqual(naive.total(words[index] for index in indices), word)

    def test_counted_by_bits(self):
        for length, words in itertools.chain(naive.small_tuples(), naive.made_tuples(3, (9, 15, 24), 8, 5)):
            basis, listed = basis_of(length, words), span_of(length, words)
            self.assertEqual(len(listed), 2 ** len(basis))
            for index, word in enumerate(listed):
                picked = [one for at, one in enumerate(reversed(basis)) if index >> at & 1]
                self.assertEqual(word, naive.total(picked))
            self.assertEqual(listed, tuple(sorted(naive.sums(words))))

    def test_edges(self):
        for length in (1, 2, 23, 24):
            most = 2 ** length - 1
            for words in ((), (0,), (0,) * 64):
                self.assertEqual(basis_of(length, words), ())
                self.assertEqual(span_of(length, words), (0,))
                self.assertEqual(free_places(length, words), tuple(range(length)))
                self.assertEqual(remainder_of(length, words, most), most)
            self.assertEqual(basis_of(length, (most,) * 64), (most,))
            self.assertEqual(free_places(length, (most,)), tuple(range(length - 1)))
            self.assertEqual(span_of(length, (most, 0, most)), (0, most))
            self.assertEqual(basis_of(length, UNITS[:length]), UNITS[:length][::-1])
            self.assertEqual(free_places(length, UNITS[:length]), ())
            self.assertEqual(remainder_of(length, UNITS[:length], most), 0)

    def test_most_spanned(self):
        words = UNITS[5:17]
        listed = span_of(24, words + words)
        self.assertEqual(listed, tuple(32 * index for index in range(4096)))
        for told in (words + (1,), words + (1, 1, 0), UNITS):
            with self.assertRaises(TooMany) as caught:
                span_of(24, told)
            self.assertEqual(caught.exception.limit, 12)
        with self.assertRaises(TooMany):
            span_of(13, UNITS[:13])
        self.assertEqual(span_of(12, UNITS[:12]), tuple(range(4096)))


class Remainders(unittest.TestCase):
    def test_least_of_the_sums(self):
        for length, words in naive.small_tuples():
            span = naive.sums(words)
            for word in range(2 ** length):
                self.assertEqual(remainder_of(length, words, word), min(word ^ one for one in span))

    def test_zero_at_all_heads(self):
        source = random.Random(11)
        for length, words in naive.made_tuples(4, range(5, 25), 9, 4):
            span = naive.sums(words)
            for _ in range(20):
                word = source.randrange(2 ** length)
                rest = remainder_of(length, words, word)
                self.assertIn(word ^ rest, span)
                self.assertFalse(any(rest >> head & 1 for head in naive.heads(span)))
                self.assertEqual(rest, min(word ^ one for one in span))

    def test_in_the_span_exactly_if_it_is_0(self):
        for span in naive.spans(4):
            words = tuple(sorted(span))
            rests = [remainder_of(4, words, word) for word in range(16)]
            for word in range(16):
                self.assertEqual(rests[word] == 0, word in span)
            for one, other in itertools.product(range(16), repeat=2):
                self.assertEqual(rests[one] == rests[other], one ^ other in span)


class EitherOr(unittest.TestCase):
    def told_rightly(self, words, word, value):
        kind, told = value
        if kind == "parts":
            return naive.total(words[index] for index in told) == word
        return not naive.even(told, word) and all(naive.even(told, one) for one in words)

    def test_answers(self):
        for length, words in naive.small_tuples():
            span = naive.sums(words)
            for word in range(2 ** length):
                answer = parts_or_check(length, words, word)
                self.assertEqual(answer[0], "parts" if word in span else "check")
                self.assertTrue(self.told_rightly(words, word, answer))
                if word in span:
                    self.assertEqual(sorted(set(answer[1])), list(answer[1]))
                self.assertIs(is_parts_or_check(length, words, word, answer), True)

    def test_all_values_are_judged_and_never_both(self):
        for length, most in ((1, 4), (2, 3), (3, 3)):
            for words in naive.told_tuples(length, most):
                values = [("parts", lot) for lot in naive.index_lots(len(words))]
                values += [("check", check) for check in range(2 ** length)]
                for word in range(2 ** length):
                    right = [value for value in values if is_parts_or_check(length, words, word, value)]
                    self.assertEqual(right, [value for value in values if self.told_rightly(words, word, value)])
                    self.assertEqual(len({kind for kind, _ in right}), 1)

    def test_longer_words(self):
        source = random.Random(13)
        for length, words in naive.made_tuples(5, range(5, 25), 64, 6):
            basis = basis_of(length, words)
            for word in [source.randrange(2 ** length) for _ in range(6)] + list(words[:3]) + list(basis[:3]) + [0]:
                answer = parts_or_check(length, words, word)
                self.assertTrue(self.told_rightly(words, word, answer))
                self.assertIs(is_parts_or_check(length, words, word, answer), True)
                self.assertEqual(answer[0] == "parts", remainder_of(length, words, word) == 0)

    def test_most_words(self):
        words = (0,) * 40 + UNITS
        self.assertEqual(parts_or_check(24, words, EVERY), ("parts", tuple(range(40, 64))))
        self.assertIs(is_parts_or_check(24, words, 0, ("parts", tuple(range(40)))), True)
        self.assertIs(is_parts_or_check(24, words, 0, ("parts", tuple(range(41)))), False)
        self.assertIs(is_parts_or_check(24, words, 0, ("parts", (0, 64))), False)

    def test_words_told_twice(self):
        self.assertIs(is_parts_or_check(4, (3, 3, 0), 3, ("parts", (0,))), True)
        self.assertIs(is_parts_or_check(4, (3, 3, 0), 3, ("parts", (1, 2))), True)
        self.assertIs(is_parts_or_check(4, (3, 3, 0), 3, ("parts", (0, 1))), False)
        self.assertIs(is_parts_or_check(4, (3, 3, 0), 0, ("parts", (0, 1))), True)

    def test_edges(self):
        self.assertEqual(parts_or_check(1, (), 0), ("parts", ()))
        self.assertEqual(parts_or_check(1, (), 1), ("check", 1))
        self.assertEqual(parts_or_check(24, (), 0), ("parts", ()))
        self.assertEqual(parts_or_check(24, UNITS[1:], 1), ("check", 1))
        self.assertIs(is_parts_or_check(24, (), EVERY, ("check", 1)), True)
        self.assertIs(is_parts_or_check(24, (), EVERY, ("check", 3)), False)

    def test_no_other_value_is_right(self):
        wrong = [None, True, 0, 6, "parts", (), ("parts",), ("check",), ["parts", (0, 1)], ("parts", [0, 1]),
                 ("parts", (1, 0)), ("parts", (0, 0)), ("parts", (0, 1, 1)), ("parts", (False, True)),
                 ("parts", (0, True)), ("parts", (0, 2)), ("parts", (-2, -1)), ("parts", (0, -1)), ("parts", 3),
                 ("parts", "01"), ("parts", ("0", "1")), ("parts", (0, None)), ("parts", (0, 10 ** 99)),
                 ("parts", (0, 1), 0), ("part", (0, 1)), ("Parts", (0, 1)), ((0, 1), "parts"), ("parts", ()),
                 ("parts", {0: 1}), ("check", 8), ("check", 0), (0, (0, 1)), (None, None), {"parts": (0, 1)},
                 ("parts", ((0, 1),)), (("parts",), (0, 1)), (["parts"], (0, 1))]
        for value in wrong:
            self.assertIs(is_parts_or_check(4, (3, 5), 6, value), False, value)
        wrong = [("check", 16), ("check", 24), ("check", -1), ("check", -8), ("check", True), ("check", None),
                 ("check", "8"), ("check", (8,)), ("check", [8]), ("check", 2 ** 24 + 8), ("check", 10 ** 5000 + 8),
                 ["check", 8], ("check", 8, 8), ("check", 9), ("check", 7), ("check", 0), ("parts", ()),
                 ("parts", (0, 1)), ("checks", 8), ("parts", 8), (8, "check"), None, 8]
        for value in wrong:
            self.assertIs(is_parts_or_check(4, (3, 5), 8, value), False, value)
        for value in (("check", 8), ("check", 15)):
            self.assertIs(is_parts_or_check(4, (3, 5), 8, value), True)
        self.assertIs(is_parts_or_check(4, (2, 4), 1, ("check", 1)), True)
        self.assertIs(is_parts_or_check(4, (2, 4), 1, ("check", True)), False)
        self.assertIs(is_parts_or_check(4, (2,), 2, ("parts", (0,))), True)
        self.assertIs(is_parts_or_check(4, (2,), 2, ("parts", (False,))), False)
        self.assertIs(is_parts_or_check(4, (), 0, ("parts", ())), True)


class Checks(unittest.TestCase):
    def test_even_with_all(self):
        for length, words in naive.small_tuples():
            self.assertEqual(naive.sums(checks_of(length, words)), naive.checks(length, words))

    def test_they_are_a_basis(self):
        for length in range(1, 6):
            for span in naive.spans(length):
                words = naive.basis(span)
                told = checks_of(length, words)
                self.assertEqual(told, naive.basis(naive.checks(length, span)))
                self.assertEqual(len(told), length - len(words))
                self.assertEqual(checks_of(length, told), words)

    def test_one_check_for_each_free_place(self):
        for span in naive.spans(4):
            words = tuple(sorted(span))
            free = free_places(4, words)
            single = []
            for place in free:
                fitting = [check for check in naive.checks(4, span)
                           if check >> place & 1 and not any(check >> at & 1 for at in free if at != place)]
                self.assertEqual(len(fitting), 1)
                single.append(fitting[0])
            self.assertEqual(basis_of(4, tuple(single)), checks_of(4, words))

    def test_longer_words(self):
        for length, words in naive.made_tuples(6, range(6, 25), 64, 5):
            told = checks_of(length, words)
            self.assertEqual(len(told), length - len(basis_of(length, words)))
            self.assertTrue(all(naive.even(check, word) for check in told for word in words))
            self.assertEqual(told, basis_of(length, told))
            self.assertEqual(checks_of(length, told), basis_of(length, words))

    def test_edges(self):
        self.assertEqual([checks_of(1, ()), checks_of(1, (1,)), checks_of(1, (0,))], [(1,), (), (1,)])
        self.assertEqual([checks_of(24, ()), checks_of(24, UNITS)], [UNITS[::-1], ()])
        self.assertEqual(checks_of(24, (EVERY,) * 64), tuple(2 ** at + 1 for at in range(23, 0, -1)))


class Together(unittest.TestCase):
    def test_sums_and_meets(self):
        for length in range(1, 5):
            spans = naive.spans(length)
            told = {span: naive.basis(span) for span in spans}
            for one, other in itertools.product(spans, repeat=2):
                both = frozenset(word ^ more for word in one for more in other)
                self.assertEqual(sum_of(length, told[one], told[other]), told[both])
                self.assertEqual(meet_of(length, told[one], told[other]), told[one & other])
                self.assertEqual(len(told[both]) + len(told[one & other]), len(told[one]) + len(told[other]))

    def test_words_of_any_kind(self):
        for length, words in naive.made_tuples(8, range(1, 25), 9, 8):
            one, other = words[::2], words[1:] + words[:1]
            both, shared = naive.sums(one + other), naive.sums(one) & naive.sums(other)
            self.assertEqual(sum_of(length, one, other), naive.basis(both))
            self.assertEqual(meet_of(length, one, other), naive.basis(shared))

    def test_checks_of_sums_and_of_meets(self):
        spans = [naive.basis(span) for span in naive.spans(4)]
        for one, other in itertools.product(spans, repeat=2):
            checks = checks_of(4, one), checks_of(4, other)
            self.assertEqual(checks_of(4, sum_of(4, one, other)), meet_of(4, *checks))
            self.assertEqual(checks_of(4, meet_of(4, one, other)), sum_of(4, *checks))

    def test_edges(self):
        low, high = UNITS[:14], UNITS[10:]
        self.assertEqual(sum_of(24, low, high), UNITS[::-1])
        self.assertEqual(meet_of(24, low, high), UNITS[10:14][::-1])
        self.assertEqual(sum_of(24, (0,) * 64, (EVERY,) * 64), (EVERY,))
        self.assertEqual(meet_of(24, UNITS, (EVERY,) * 64), (EVERY,))
        self.assertEqual([sum_of(1, (), ()), meet_of(1, (), ()), sum_of(1, (), (1,)), meet_of(1, (1,), (1, 0))],
                         [(), (), (1,), (1,)])


class Untrue(unittest.TestCase):
    """What [1.7] calls untrue."""

    def test_a_span_and_its_checks_can_share_more_than_0(self):
        self.assertEqual(meet_of(4, (3,), checks_of(4, (3,))), (3,))
        self.assertEqual(meet_of(2, (3,), checks_of(2, (3,))), (3,))

    def test_equal_counts_and_unlike_meets(self):
        for words in ((3,), (12,)):
            self.assertEqual([weight(word) for word in span_of(4, words)], [0, 2])
        self.assertEqual([meet_of(4, (3,), (3,)), meet_of(4, (12,), (3,))], [(3,), ()])

    def test_heads_are_not_the_least_places_that_tell_the_words(self):
        self.assertEqual([basis_of(4, (3, 5)), free_places(4, (3, 5))], [(5, 3), (0, 3)])
        listed = span_of(4, (3, 5))
        self.assertEqual(len({(word & 1, word >> 1 & 1) for word in listed}), len(listed))

    def test_the_weight_does_not_tell_the_remainder(self):
        self.assertEqual([weight(3), weight(12), remainder_of(4, (3,), 12)], [2, 2, 12])
        self.assertEqual(product(3, 12), 0)


if __name__ == "__main__":
    unittest.main()
