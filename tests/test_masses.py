"""[0.13], [0.15] and [9.1] to [9.6]: kinds and masses, held against all own codes of short lengths."""

import itertools
import math
import random
import unittest

from ownchecks.code.codes import Code, is_own
from ownchecks.errors import InvalidCode, InvalidNumber, InvalidOperation, Refused, TooMany
from ownchecks.kinds import masses
from ownchecks.kinds.masses import complete_or_lacks, is_complete_or_lacks, is_kinds_of, is_list, is_unlike_or_alike
from ownchecks.kinds.masses import kind_in, kinds_of, mass_of, masses_of, unlike_or_alike, weighed_counts
from ownchecks.near.every import codes, count_of
from ownchecks.near.neighbours import neighbours
from ownchecks.same.exchanges import exchange_or_none, exchanged, order_of
from ownchecks.weigh.counts import counts_of
from tests import naive
from tests.kinds import EIGHT, GOLAY, LISTS, MIXED, PAIR, PLAIN, SEVENS, STRIP, mixed_up, plain, some, told

LENGTHS = (2, 4, 6, 8)


def numbers(length, listed):
    """The kinds of the codes, by exchanges of two places."""
    return [naive.classes(length)[naive.sums(code.basis)] for code in listed]


def mass_by_words(length, code):
    kinds = naive.classes(length)
    return list(kinds.values()).count(kinds[naive.sums(code.basis)])


def small_lists():
    """Lists of short codes: each one code and all pairs, and some longer ones."""
    source = random.Random(91)
    for length in LENGTHS:
        every = [code for _, code in told(length)]
        for code in every:
            yield length, (code,)
        for pair in itertools.product(every[::5], every[::7]):
            yield length, pair
        for many in range(3, 9):
            for _ in range(6):
                yield length, tuple(source.choice(every) for _ in range(many))


def first_pair(found):
    """The first pair of indices of equal members, or None."""
    pairs = [(one, other) for one, other in itertools.combinations(range(len(found)), 2) if found[one] == found[other]]
    return min(pairs, default=None)


class Lists(unittest.TestCase):
    def test_what_is_one(self):
        for length, known in LISTS.items():
            self.assertIs(is_list(known), True)
            self.assertIs(is_list(known[:1] * 8), True)
            self.assertIs(is_list(known[:1] * 9), False)
            self.assertIs(is_list((known + known + known)[:8]), True)
        self.assertIs(is_list(tuple(some(92, (14,), 8))), True)
        for length in (16, 18, 24):
            self.assertIs(is_list((plain(length),)), False)

    def test_what_is_none(self):
        for value in (None, True, 0, 10 ** 5000, "", "list", (), [], [PAIR], PAIR, {0: PAIR}, (None,), (PAIR, None),
                      (PAIR, True), (PAIR, 3), ((PAIR,),), (PAIR, (PAIR,)), (PAIR, plain(4)), (plain(4), PAIR),
                      (EIGHT, MIXED), (Code(2, ()),), (PAIR, Code(2, ())), (Code(2, (1,)),), (Code(4, (3,)),),
                      (Code(1, ()),), (Code(3, (7,)),), (PAIR,) * 9, (PAIR,) * 5000, (GOLAY,), (PAIR, GOLAY), (GOLAY, PAIR),
                      (plain(16),), (plain(14), plain(16)), (None,) * 5000, ("a", "b")):
            self.assertIs(is_list(value), False)


class Masses(unittest.TestCase):
    def test_by_counting_all_codes(self):
        for length in LENGTHS:
            kinds = list(naive.classes(length).values())
            for span, code in told(length):
                mass = mass_of(code)
                self.assertIs(type(mass), int)
                self.assertEqual(mass, kinds.count(naive.classes(length)[span]))
        # of the length 10 there are two kinds, and just one has words of weight 2 at no more than two places
        counted = [len([1 for code in codes(10) if counts_of(code)[2] == many]) for many in (5, 1)]
        self.assertEqual([mass_of(code) for code in LISTS[10]], counted)

    def test_by_what_keeps_a_code(self):
        for known in LISTS.values():
            for code in known:
                self.assertEqual(mass_of(code) * order_of(code), math.factorial(code.length))
                self.assertEqual(mass_of(exchanged(code, mixed_up(code.length, random.Random(93)))), mass_of(code))

    def test_all_kinds_add_up_to_all_codes(self):
        for length, known in LISTS.items():
            self.assertEqual(sum(mass_of(code) for code in known),
                             math.prod(2 ** at + 1 for at in range(1, length // 2)))
        self.assertEqual([mass_of(code) for code in LISTS[14]], [135135, 1351350, 1891890, 1544400])

    def test_lengths(self):
        self.assertEqual([mass_of(PAIR), mass_of(plain(4)), mass_of(SEVENS)], [1, 3, 1544400])
        for length in (16, 18, 24):
            with self.assertRaises(TooMany) as caught:
                mass_of(plain(length))
            self.assertEqual(caught.exception.limit, 14)
        with self.assertRaises(InvalidCode):
            mass_of(Code(16, ()))


class UnlikeOrAlike(unittest.TestCase):
    def test_one_of_both(self):
        for length, listed in small_lists():
            found = numbers(length, listed)
            answer = unlike_or_alike(listed)
            self.assertIs(type(answer), tuple)
            if len(set(found)) == len(found):
                self.assertEqual(answer, ("unlike",))
            else:
                kind, one, other, exchange = answer
                self.assertEqual(kind, "alike")
                self.assertTrue(0 <= one < other < len(listed))
                self.assertEqual(sorted(exchange), list(range(length)))
                led = naive.led_code(exchange, naive.sums(listed[one].basis))
                self.assertEqual(led, naive.sums(listed[other].basis))
            self.assertIs(is_unlike_or_alike(listed, answer), True)
            self.assertIs(is_unlike_or_alike(listed, ("unlike",)), answer == ("unlike",))

    def test_longer_codes(self):
        source = random.Random(94)
        for length, known in LISTS.items():
            self.assertEqual(unlike_or_alike(known), ("unlike",))
            led = tuple(exchanged(code, mixed_up(length, source)) for code in known)
            kind, one, other, exchange = unlike_or_alike(known + led)
            self.assertEqual([kind, other - one], ["alike", len(known)])
            self.assertEqual(exchanged((known + led)[one], exchange), (known + led)[other])

    def test_all_pairs_and_exchanges_are_judged(self):
        one = plain(4)
        listed = (one, exchanged(one, (0, 2, 1, 3)), one)
        for first, then in itertools.product(range(-2, 5), repeat=2):
            for exchange in itertools.permutations(range(4)):
                right = 0 <= first < then < 3 and exchanged(listed[first], exchange) == listed[then]
                self.assertIs(is_unlike_or_alike(listed, ("alike", first, then, exchange)), right)

    def test_no_other_value_is_right(self):
        listed = (PLAIN, EIGHT, PLAIN, PLAIN)
        same = tuple(range(8))
        for value in (None, True, 0, "", "unlike", (), ("unlike",), ("unlike", None), ["unlike"], ("alike",), ("alike", 0, 2),
                      ("alike", 0, 2, None), ("alike", 2, 0, same), ("alike", 0, 0, same), ("alike", 0, 1, same),
                      ("alike", 0, 4, same), ("alike", -2, 2, same), ("alike", False, 2, same), ("alike", 0, True, same),
                      ("alike", 0, 2, list(same)), ("alike", 0, 2, same[:7]), ("alike", 0, 2, (0,) * 8),
                      ("alike", 0, 2, (False, True) + same[2:]), ("alike", 0, 2, same, same), ["alike", 0, 2, same],
                      ("alike", "0", 2, same), ("alike", 0, 10 ** 5000, same), ("alike", None, None, None),
                      ("alike", 0, 2, (1, 2, 3, 4, 5, 6, 7, 0)), (0, 2, same), ("unlike", 0, 2, same), {"alike": 0}, PLAIN):
            self.assertIs(is_unlike_or_alike(listed, value), False)
        self.assertIs(is_unlike_or_alike(listed, ("alike", 0, 2, same)), True)
        self.assertIs(is_unlike_or_alike(listed, ("alike", 2, 3, (1, 0) + same[2:])), True)
        for value in (("unlike", 1), ("Unlike",), ("alike", 0, 1, same), None, ()):
            self.assertIs(is_unlike_or_alike((PLAIN, EIGHT), value), False)


class Refusing(unittest.TestCase):
    def calls(self, listed):
        return (lambda: masses_of(listed), lambda: complete_or_lacks(listed), lambda: weighed_counts(listed),
                lambda: is_complete_or_lacks(listed, None), lambda: is_complete_or_lacks(listed, ("complete", (1,))))

    def test_the_first_pair_of_alike_codes(self):
        for length, listed in small_lists():
            pair = first_pair(numbers(length, listed))
            if len(listed) == 1 or pair is None:
                self.assertIsNone(pair)
                self.assertEqual(masses_of(listed), tuple(mass_by_words(length, code) for code in listed))
                continue
            for call in self.calls(listed):
                with self.assertRaises(Refused) as caught:
                    call()
                self.assertEqual(caught.exception.reason, ("alike",) + pair)

    def test_the_pair_with_the_least_first_index_goes_ahead(self):
        for listed, pair in (((PLAIN, EIGHT, EIGHT, PLAIN), (0, 3)), ((PLAIN, EIGHT, PLAIN, EIGHT), (0, 2)),
                             ((EIGHT,) * 8, (0, 1)), ((MIXED, plain(10), plain(10)), (1, 2))):
            for call in self.calls(listed):
                with self.assertRaises(Refused) as caught:
                    call()
                self.assertEqual(caught.exception.reason, ("alike",) + pair)

    def test_others_take_alike_codes(self):
        self.assertEqual(kind_in((PLAIN, PLAIN), PLAIN), 0)
        self.assertEqual(unlike_or_alike((PLAIN, PLAIN))[:3], ("alike", 0, 1))
        self.assertIs(is_kinds_of(8, (PLAIN, EIGHT, PLAIN)), False)
        self.assertIs(is_list((PLAIN, EIGHT, PLAIN)), True)


class CompleteOrLacks(unittest.TestCase):
    def test_unlike_codes(self):
        for length, listed in small_lists():
            found = numbers(length, listed)
            if len(set(found)) < len(found):
                continue
            lacking = set(naive.classes(length).values()) - set(found)
            answer = complete_or_lacks(listed)
            self.assertIs(type(answer), tuple)
            if lacking:
                self.assertEqual([len(answer), answer[0]], [2, "lacks"])
                self.assertIn(numbers(length, answer[1:])[0], lacking)
            else:
                self.assertEqual(answer, ("complete", tuple(mass_by_words(length, code) for code in listed)))
            self.assertIs(is_complete_or_lacks(listed, answer), True)
            for span, code in told(length)[len(found)::45]:
                right = naive.classes(length)[span] in lacking
                self.assertIs(is_complete_or_lacks(listed, ("lacks", code)), right)

    def test_each_part_of_a_list(self):
        source = random.Random(95)
        for length, known in LISTS.items():
            for many in range(1, len(known) + 1):
                for listed in itertools.combinations(known, many):
                    listed = tuple(exchanged(code, mixed_up(length, source)) for code in listed)
                    kind, shown = complete_or_lacks(listed)
                    self.assertEqual(kind == "complete", many == len(known))
                    if kind == "lacks":
                        self.assertTrue(is_own(shown) and shown.length == length)
                        self.assertTrue(all(exchange_or_none(code, shown) is None for code in listed))
                    else:
                        self.assertEqual(shown, tuple(mass_of(code) for code in listed))
                        self.assertEqual(sum(shown), count_of(length))
                    self.assertIs(is_complete_or_lacks(listed, (kind, shown)), True)
                    for code in known:
                        right = all(exchange_or_none(code, one) is None for one in listed)
                        self.assertIs(is_complete_or_lacks(listed, ("lacks", code)), right)

    def test_no_other_value_is_right(self):
        for value in (None, True, 0, "", "complete", (), ("complete",), ("complete", None), ("complete", [105, 30]),
                      ["complete", (105, 30)], ("complete", (30, 105)), ("complete", (105,)), ("complete", (105, 30, 0)),
                      ("complete", (105, 31)), ("complete", 105, 30), ("complete", (105, True)), ("lacks", EIGHT),
                      ("lacks", PLAIN), ("lacks",), ("lacks", None), ("complete", (105, 30), ()), (None, None),
                      ("complete", (105, 10 ** 5000)), ("complete", ("105", 30)), ("complete", (PLAIN, EIGHT)), EIGHT):
            self.assertIs(is_complete_or_lacks((PLAIN, EIGHT), value), False)
        self.assertIs(is_complete_or_lacks((PLAIN, EIGHT), ("complete", (105, 30))), True)
        for value in (None, (), ("complete", (105,)), ("complete", (135,)), ("lacks",), ("lacks", PLAIN), ("lacks", None),
                      ("lacks", True), ("lacks", MIXED), ("lacks", PAIR), ("lacks", Code(8, ())), ("lacks", EIGHT.basis),
                      ("lacks", (EIGHT,)), ["lacks", EIGHT], ("lacks", EIGHT, EIGHT), ("lacks", GOLAY), ("lack", EIGHT),
                      ("lacks", exchanged(PLAIN, (0, 2, 1, 3, 4, 5, 6, 7)))):
            self.assertIs(is_complete_or_lacks((PLAIN,), value), False)
        self.assertIs(is_complete_or_lacks((PLAIN,), ("lacks", EIGHT)), True)
        # True is equal to the mass 1, but no integer
        self.assertIs(is_complete_or_lacks((PAIR,), ("complete", (1,))), True)
        self.assertIs(is_complete_or_lacks((PAIR,), ("complete", (True,))), False)


class Weighed(unittest.TestCase):
    def test_counts_times_masses(self):
        for length, listed in small_lists():
            found = numbers(length, listed)
            if len(set(found)) == len(found):
                row = [0] * (length + 1)
                for code in listed:
                    for word in naive.sums(code.basis):
                        row[naive.ones(word)] += mass_by_words(length, code)
                self.assertEqual(weighed_counts(listed), tuple(row))

    def test_all_kinds(self):
        for length, known in LISTS.items():
            every = math.prod(2 ** at + 1 for at in range(1, length // 2))
            fewer = math.prod(2 ** at + 1 for at in range(1, length // 2 - 1))
            expected = [math.comb(length, at) * fewer if at % 2 == 0 else 0 for at in range(length + 1)]
            expected[0] = expected[length] = every
            self.assertEqual(weighed_counts(known), tuple(expected))
            self.assertEqual(weighed_counts(known[::-1]), tuple(expected))

    def test_not_all_kinds(self):
        self.assertEqual(weighed_counts((EIGHT,)), (30, 0, 0, 0, 420, 0, 0, 0, 30))
        self.assertEqual(weighed_counts((PAIR,)), (1, 0, 1))


class Kinds(unittest.TestCase):
    def test_kind_in(self):
        for length, listed in small_lists():
            found = numbers(length, listed)
            for span, code in told(length)[len(found)::45]:
                kind = naive.classes(length)[span]
                self.assertEqual(kind_in(listed, code), found.index(kind) if kind in found else None)
        source = random.Random(96)
        for length, known in LISTS.items():
            for at, code in enumerate(known):
                self.assertEqual(kind_in(known, exchanged(code, mixed_up(length, source))), at)
                self.assertEqual(kind_in(known[::-1], code), len(known) - 1 - at)
                self.assertIsNone(kind_in(known[:at], code) if at else None)

    def test_codes_of_another_length(self):
        for listed, code in ((LISTS[8], MIXED), (LISTS[14], plain(16)), (LISTS[2], GOLAY), (LISTS[4], PAIR)):
            with self.assertRaises(InvalidOperation):
                kind_in(listed, code)
        for code in (None, Code(8, ()), Code(4, ()), EIGHT.basis, True):
            with self.assertRaises(InvalidCode):
                kind_in(LISTS[8], code)

    def test_all_kinds(self):
        many = []
        for length in range(2, 16, 2):
            answer = kinds_of(length)
            self.assertIs(type(answer), tuple)
            self.assertIs(is_kinds_of(length, answer), True)
            self.assertEqual(unlike_or_alike(answer), ("unlike",))
            self.assertEqual(sorted(kind_in(LISTS[length], code) for code in answer), list(range(len(LISTS[length]))))
            many.append(len(answer))
        self.assertEqual(many, [1, 1, 1, 2, 2, 3, 4])
        for length in LENGTHS:
            self.assertEqual(set(numbers(length, kinds_of(length))), set(naive.classes(length).values()))

    def test_lists_are_judged(self):
        source = random.Random(97)
        for length, known in LISTS.items():
            for listed in itertools.permutations(known):
                listed = tuple(exchanged(code, mixed_up(length, source)) for code in listed)
                self.assertIs(is_kinds_of(length, listed), True)
                self.assertIs(is_kinds_of(length, listed[1:]), False)
                self.assertIs(is_kinds_of(length, listed + listed[:1]), False)
                self.assertIs(is_kinds_of(length, list(listed)), False)
                self.assertIs(is_kinds_of(length, listed[:-1] + listed[:1]), len(listed) == 1)
                self.assertIs(is_kinds_of(14 if length == 2 else length - 2, listed), False)
        for length, listed in small_lists():
            found = numbers(length, listed)
            right = sorted(found) == sorted(set(naive.classes(length).values()))
            self.assertIs(is_kinds_of(length, listed), right)

    def test_lengths(self):
        for length in (0, 1, 3, 5, 7, 9, 13, 15, 16, 17, 18, 24, 25, -2, True, None, "8", (8,), 10 ** 60):
            for call in (lambda: kinds_of(length), lambda: is_kinds_of(length, LISTS[8]), lambda: is_kinds_of(length, None)):
                with self.assertRaises(InvalidNumber) as caught:
                    call()
                self.assertIs(caught.exception.given, length)
        for value in (None, True, 0, (), [], PAIR, (None,), ((PAIR,),), (EIGHT, None), "kinds", (PAIR,) * 9, 5000 * (1,)):
            self.assertIs(is_kinds_of(8, value), False)
            self.assertIs(is_kinds_of(2, value), False)
        self.assertEqual([masses.MOST_LENGTH, masses.MOST_CODES], [14, 8])


class Untrue(unittest.TestCase):
    """What [9.6] and [0.20] call untrue."""

    def test_more_words_of_weight_two_and_a_greater_mass(self):
        self.assertEqual([counts_of(code)[2] for code in (PLAIN, EIGHT)], [4, 0])
        self.assertGreater(mass_of(PLAIN), mass_of(EIGHT))

    def test_the_most_words_of_weight_four_and_not_the_least_mass(self):
        self.assertEqual([counts_of(code)[4] for code in LISTS[10]], [10, 14])
        self.assertEqual(masses_of(LISTS[10]), (945, 1350))

    def test_neighbour_to_all_kinds_and_not_of_the_greatest_mass(self):
        self.assertEqual({kind_in((PLAIN, EIGHT), code) for code in neighbours(EIGHT)}, {0, 1})
        self.assertEqual(masses_of((PLAIN, EIGHT)), (105, 30))

    def test_masses_that_do_not_divide_one_another(self):
        one, other = masses_of((PLAIN, EIGHT))
        self.assertTrue(one % other and other % one)

    def test_as_many_codes_as_kinds_and_not_all_kinds(self):
        listed = (STRIP, STRIP, plain(12))
        self.assertEqual(len(listed), len(kinds_of(12)))
        self.assertIs(is_kinds_of(12, listed), False)
        self.assertIs(is_kinds_of(12, LISTS[12]), True)


if __name__ == "__main__":
    unittest.main()
