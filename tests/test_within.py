"""[17.1] to [17.6]: own codes around a code, and between two, held against a look at all own codes."""

import functools
import itertools
import math
import random
import unittest

from ownchecks.base.spans import binomial
from ownchecks.code.codes import Code, dual, is_own
from ownchecks.errors import InvalidNumber, InvalidOperation, TooMany
from ownchecks.near.neighbours import distance, shared, way
from ownchecks.near.within import around_or_odd, between_by, codes_around, codes_between, count_around, count_between
from ownchecks.near.within import first_around, is_around_or_odd, is_between
from tests import naive
from tests.kinds import EIGHT, GOLAY, LISTS, MIXED, PAIR, PLAIN, SEVENS, SIXTEEN, STRIP, mixed_up, plain, small_codes, some
from tests.kinds import told

TURNED = Code(8, (129, 66, 36, 24))
LONGER = tuple(some(171, range(10, 26, 2), 3)) + SIXTEEN[3:6] + (MIXED, STRIP, SEVENS, GOLAY, plain(24))


@functools.lru_cache(None)
def cases():
    """Pairs of a span and its code: all of the lengths 2 and 4, many of 6 and 8."""
    found = [(span, code) for length, span, code in small_codes(1, 4) if length % 2 == 0]
    source = random.Random(172)
    for length in (6, 8):
        owns = naive.own_codes(length)
        for _ in range(150):
            words = [source.randrange(2 ** length) for _ in range(source.randrange(4))]
            found.append((naive.sums(words), Code(length, tuple(words))))
            words = source.sample(sorted(source.choice(owns)), source.randrange(4))
            found.append((naive.sums(words), Code(length, tuple(words))))
        found += [(span, code) for span, code in told(length)[::4]]
    return tuple(found)


def odd_pairs(span):
    return [(one, other) for one in span for other in span if not naive.even(one, other)]


def around(length, span):
    return [own for own in naive.own_codes(length) if span <= own]


def longer_inner(seed):
    """Codes in own ones of greater lengths, of many dimensions."""
    source = random.Random(seed)
    for code in LONGER:
        words = sorted(naive.sums(code.basis))
        for many in (0, 1, 2, code.length // 2 - 4, code.length // 2 - 2, code.length // 2):
            yield Code(code.length, tuple(source.sample(words, max(many, 0))))


class Around(unittest.TestCase):
    def test_an_own_code_or_an_odd_pair_never_both(self):
        found = set()
        for span, code in cases():
            owns, pairs = around(code.length, span), odd_pairs(span)
            self.assertNotEqual(bool(owns), bool(pairs))
            answer = around_or_odd(code)
            self.assertIs(type(answer), tuple)
            found.add(answer[0])
            if owns:
                self.assertEqual((answer[0], len(answer), answer[1].length), ("own", 2, code.length))
                self.assertIn(naive.sums(answer[1].basis), owns)
            else:
                self.assertEqual((answer[0], len(answer)), ("odd", 3))
                self.assertIn(answer[1:], pairs)
            self.assertIs(is_around_or_odd(code, answer), True)
        self.assertEqual(found, {"own", "odd"})

    def test_all_answers_are_judged(self):
        for span, code in cases()[::7]:
            owns, pairs = around(code.length, span), set(odd_pairs(span))
            for own, other in told(code.length):
                self.assertIs(is_around_or_odd(code, ("own", other)), own in owns)
            words = range(-1, 2 ** code.length + 1)
            if code.length <= 4:
                for one, other in itertools.product(words, repeat=2):
                    self.assertIs(is_around_or_odd(code, ("odd", one, other)), (one, other) in pairs)
            else:
                for one in sorted(span)[:4]:
                    for other in words:
                        self.assertIs(is_around_or_odd(code, ("odd", one, other)), (one, other) in pairs)
                        self.assertIs(is_around_or_odd(code, ("odd", other, one)), (other, one) in pairs)

    def test_the_first_one_is_put_in_word_by_word(self):
        for span, code in cases():
            if odd_pairs(span):
                self.assertIsNone(first_around(code))
                continue
            length = code.length
            got = naive.sums([*span, 2 ** length - 1])
            while len(got) < 2 ** (length // 2):
                least = min(word for word in range(2 ** length)
                            if word not in got and all(naive.even(word, one) for one in got))
                got = got | {word ^ least for word in got}
            self.assertEqual(naive.sums(first_around(code).basis), got)
            self.assertEqual(first_around(code).length, length)

    def test_how_many_and_all_of_them(self):
        for span, code in cases():
            owns = around(code.length, span)
            self.assertEqual(count_around(code), len(owns))
            self.assertIs(type(count_around(code)), int)
            found = codes_around(code)
            self.assertIs(type(found), tuple)
            self.assertEqual([one.basis for one in found], sorted(naive.basis(own) for own in owns))
            self.assertEqual({one.length for one in found}, {code.length} if owns else set())

    def test_each_word_that_can_be_put_in_is_in_equally_many(self):
        for span, code in cases()[::3]:
            owns = [naive.sums(one.basis) for one in codes_around(code)]
            if not owns:
                continue
            got = naive.sums([*span, 2 ** code.length - 1])
            free = [word for word in range(2 ** code.length)
                    if word not in got and all(naive.even(word, one) for one in naive.basis(got))]
            many = {len([own for own in owns if word in own]) for word in free}
            self.assertLessEqual(len(many), 1)
            for word in free[:3]:
                self.assertEqual(many, {count_around(Code(code.length, code.basis + (word,)))})

    def test_longer_codes(self):
        for inner in longer_inner(173):
            half = inner.length // 2
            whole = naive.sums([*inner.basis, 2 ** inner.length - 1])
            many = math.prod(2 ** at + 1 for at in range(1, half - naive.dimension(whole) + 1))
            self.assertEqual(count_around(inner), many)
            first = first_around(inner)
            self.assertTrue(is_own(first))
            self.assertLessEqual(set(inner.basis), naive.sums(first.basis))
            self.assertIs(is_around_or_odd(inner, ("own", first)), True)
            if many > 135:
                with self.assertRaises(TooMany) as caught:
                    codes_around(inner)
                self.assertEqual(caught.exception.limit, 135)
                continue
            found = codes_around(inner)
            bases = [one.basis for one in found]
            self.assertEqual((len(found), len(set(bases)), bases), (many, many, sorted(bases)))
            for one in found:
                self.assertTrue(is_own(one))
                self.assertLessEqual(naive.sums(inner.basis), naive.sums(one.basis))

    def test_words_put_in_are_the_least_ones(self):
        for inner in longer_inner(174):
            if inner.length > 14:
                continue
            length = inner.length
            got = naive.sums([*inner.basis, 2 ** length - 1])
            while len(got) < 2 ** (length // 2):
                rows = naive.basis(got)
                least = next(word for word in range(2 ** length)
                             if word not in got and all(naive.even(word, one) for one in rows))
                got = got | {word ^ least for word in got}
            self.assertEqual(naive.sums(first_around(inner).basis), got)

    def test_edges(self):
        for length in range(2, 26, 2):
            for code in (Code(length, ()), Code(length, (2 ** length - 1,))):
                self.assertEqual(first_around(code), plain(length))
                self.assertEqual(count_around(code), math.prod(2 ** at + 1 for at in range(1, length // 2)))
            for own in (plain(length),) + (LISTS[length] if length in LISTS else ()):
                self.assertEqual((around_or_odd(own), count_around(own)), (("own", own), 1))
                self.assertEqual(codes_around(own), (own,))
            whole = Code(length, tuple(2 ** place for place in range(length)))
            self.assertEqual((count_around(whole), codes_around(whole), first_around(whole)), (0, (), None))
            self.assertEqual(around_or_odd(whole)[0], "odd")
        # dimensions above n / 2 have odd pairs
        self.assertEqual(count_around(Code(4, (3, 12, 5))), 0)
        self.assertEqual(len(codes_around(Code(8, ()))), 135)
        with self.assertRaises(TooMany) as caught:
            codes_around(Code(10, ()))
        self.assertEqual(caught.exception.limit, 135)
        self.assertEqual(count_around(Code(10, ())), 2295)

    def test_no_other_value_is_right(self):
        inner, odd = Code(8, (15,)), Code(8, (7,))
        for value in (None, True, 0, "own", (), ("own",), ["own", EIGHT], ("Own", EIGHT), ("own", EIGHT, EIGHT), ("own", None),
                      ("own", EIGHT.basis), ("own", inner), ("own", dual(inner)), ("own", plain(10)), ("own", True),
                      ("own", TURNED), ("odd", 15, 15), ("odd", 7, 7), ("odd",), ("odd", 1, 1), (EIGHT, "own"), EIGHT,
                      {"own": EIGHT}, ("own", (EIGHT,)), ("odd", EIGHT, 15)):
            self.assertIs(is_around_or_odd(inner, value), False)
        for value in (("odd", 7), ("odd", 7, 7, 7), ["odd", 7, 7], ("odd", 7, 0), ("odd", 7, True), ("odd", None, 7),
                      ("odd", 7, 7 + 256), ("odd", 7, 10 ** 5000), ("own", EIGHT), ("own", PLAIN), ("odd", 1, 1)):
            self.assertIs(is_around_or_odd(odd, value), False)
        for value in (("own", EIGHT), ("own", PLAIN)):
            self.assertIs(is_around_or_odd(inner, value), True)
        self.assertIs(is_around_or_odd(odd, ("odd", 7, 7)), True)
        # 1 is a word here, and True is no integer
        self.assertIs(is_around_or_odd(Code(2, (1,)), ("odd", 1, 1)), True)
        self.assertIs(is_around_or_odd(Code(2, (1,)), ("odd", True, 1)), False)
        self.assertIs(is_around_or_odd(Code(2, (1,)), ("odd", 1, True)), False)


@functools.lru_cache(None)
def distances(length):
    """For each two own codes, by their indices, the distance."""
    spans = naive.own_codes(length)
    return [[naive.apart(one, other) for other in spans] for one in spans]


class Between(unittest.TestCase):
    def pairs(self):
        """Triples of a length and of the indices of two codes."""
        for length in (2, 4, 6, 8):
            many = len(told(length))
            for one in range(0, many, 1 if length < 8 else 9):
                for other in range(0, many, 1 if length < 8 else 4):
                    yield length, one, other

    def test_by_distances(self):
        for length, one, other in self.pairs():
            apart, spans = distances(length), naive.own_codes(length)
            here, there = told(length)[one][1], told(length)[other][1]
            far = apart[one][other]
            inside = [at for at in range(len(spans)) if apart[one][at] + apart[at][other] == far]
            found = codes_between(here, there)
            self.assertIs(type(found), tuple)
            self.assertEqual([code.basis for code in found], sorted(naive.basis(spans[at]) for at in inside))
            for steps in range(far + 1):
                many = len([at for at in inside if apart[one][at] == steps])
                self.assertEqual(count_between(here, there, steps), many)
                self.assertEqual(many, binomial(far, steps))

    def test_all_are_judged(self):
        for length, one, other in list(self.pairs())[::5]:
            apart = distances(length)
            here, there = told(length)[one][1], told(length)[other][1]
            for at, (_, code) in enumerate(told(length)):
                right = apart[one][at] + apart[at][other] == apart[one][other]
                self.assertIs(is_between(here, there, code), right)

    def test_just_the_spans_of_what_is_shared(self):
        for length, one, other in list(self.pairs())[::11]:
            apart, spans = distances(length), naive.own_codes(length)
            for at, span in enumerate(spans):
                whole = naive.sums([*(span & spans[one]), *(span & spans[other])]) == span
                self.assertIs(whole, apart[one][at] + apart[at][other] == apart[one][other])
                self.assertTrue(not whole or spans[one] & spans[other] <= span)

    def test_by_what_is_shared_with_the_one(self):
        for length, one, other in list(self.pairs())[::3]:
            here, there = told(length)[one][1], told(length)[other][1]
            span, goal = naive.own_codes(length)[one], naive.own_codes(length)[other]
            seen = set()
            for code in codes_between(here, there):
                inner = shared(here, code)
                self.assertEqual(between_by(here, there, inner), code)
                seen.add(inner.basis)
                told_span = naive.sums(inner.basis)
                made = naive.sums([*told_span, *[word for word in goal if all(naive.even(word, u) for u in told_span)]])
                self.assertEqual(naive.sums(code.basis), made)
                self.assertEqual(made & span, told_span)
            # each inner code is one's
            self.assertEqual(len(seen), len(codes_between(here, there)))

    def test_all_inner_codes(self):
        for here, there in itertools.product([code for _, code in told(4)] + [PAIR], repeat=2):
            for length, span, inner in small_codes(2, 4):
                if length % 2:
                    continue
                both = naive.sums(here.basis) & naive.sums(there.basis)
                if here.length != there.length or length != here.length:
                    right = False
                else:
                    right = both <= span <= naive.sums(here.basis)
                if right:
                    answer = between_by(here, there, inner)
                    self.assertEqual(naive.sums(answer.basis) & naive.sums(here.basis), span)
                    self.assertIs(is_between(here, there, answer), True)
                else:
                    with self.assertRaises(InvalidOperation):
                        between_by(here, there, inner)

    def test_longer_codes(self):
        source = random.Random(175)
        for one in LONGER:
            others = [other for other in LONGER if other.length == one.length]
            for other in others:
                far = distance(one, other)
                self.assertEqual([count_between(one, other, steps) for steps in range(far + 1)],
                                 [binomial(far, steps) for steps in range(far + 1)])
                for code in way(one, other):
                    self.assertIs(is_between(one, other, code), True)
                    self.assertEqual(between_by(one, other, shared(one, code)), code)
                total = sum(binomial(far, steps) for steps in range(far + 1))
                if total > 135:
                    with self.assertRaises(TooMany) as caught:
                        codes_between(one, other)
                    self.assertEqual(caught.exception.limit, 135)
                else:
                    found = codes_between(one, other)
                    self.assertEqual(len({code.basis for code in found}), total)
            both = shared(one, others[-1])
            more = source.sample(sorted(naive.sums(one.basis)), 2)
            inner = Code(one.length, both.basis + tuple(more))
            answer = between_by(one, others[-1], inner)
            self.assertEqual(shared(one, answer), inner)
            self.assertIs(is_between(one, others[-1], answer), True)

    def test_each_distance(self):
        numbers = []
        for far in range(12):
            one = plain(24)
            # pairs that go round on the first places share just the word of all of these with the plain ones
            round_pairs = [(place, (place + 1) % (2 * far + 2)) for place in range(1, 2 * far + 2, 2)]
            rest = [(place, place + 1) for place in range(2 * far + 2, 24, 2)]
            other = Code(24, tuple(2 ** place + 2 ** then for place, then in round_pairs + rest))
            self.assertEqual(distance(one, other), far)
            if far < 5:
                found = codes_between(one, other)
                numbers.append(len(found))
                for code in found:
                    self.assertEqual(distance(one, code) + distance(code, other), far)
                bases = [code.basis for code in found]
                self.assertEqual(bases, sorted(set(bases)))
                self.assertEqual({one.basis, other.basis} - set(bases), set())
            else:
                with self.assertRaises(TooMany) as caught:
                    codes_between(one, other)
                self.assertEqual(caught.exception.limit, 135)
            for steps in (-1, far + 1):
                with self.assertRaises(InvalidNumber) as caught:
                    count_between(one, other, steps)
                self.assertEqual(caught.exception.given, steps)
            self.assertEqual([count_between(one, other, 0), count_between(one, other, far)], [1, 1])
        self.assertEqual(numbers, [1, 2, 5, 16, 67])

    def test_equal_codes(self):
        for code in LONGER + (PAIR, PLAIN, EIGHT):
            self.assertEqual(codes_between(code, code), (code,))
            self.assertEqual((between_by(code, code, code), count_between(code, code, 0)), (code, 1))
            self.assertIs(is_between(code, code, code), True)
            exchange = mixed_up(code.length, random.Random(code.length))
            other = Code(code.length, tuple(naive.led(exchange, word) for word in code.basis))
            self.assertIs(is_between(code, code, other), other == code)
            with self.assertRaises(InvalidOperation):
                between_by(code, code, Code(code.length, code.basis[1:]))

    def test_only_own_codes_are_between(self):
        for value in (None, True, 0, (), (PLAIN,), [PLAIN], "own", ("own", PLAIN), Code(8, (195, 51, 15)), PAIR, plain(10),
                      Code(8, ()), PLAIN.basis, shared(PLAIN, EIGHT), dual(Code(8, (15,))), 10 ** 5000, {8: PLAIN}):
            self.assertIs(is_between(PLAIN, EIGHT, value), False)
        self.assertIs(is_between(PLAIN, EIGHT, EIGHT), True)


class Untrue(unittest.TestCase):
    """[17.6]"""

    def test_what_holds_all_that_is_shared_need_not_be_between(self):
        found = codes_around(shared(PLAIN, EIGHT))
        self.assertEqual(len(found), 3)
        self.assertEqual([is_between(PLAIN, EIGHT, code) for code in found].count(False), 1)

    def test_codes_at_the_distance_two_have_more_neighbours_of_both(self):
        self.assertEqual((distance(PLAIN, TURNED), count_between(PLAIN, TURNED, 1)), (2, 3))

    def test_two_codes_need_not_have_one_around_both(self):
        self.assertEqual([count_around(Code(4, (3,))), count_around(Code(4, (5,))), count_around(Code(4, (3, 5)))], [1, 1, 0])

    def test_the_first_one_need_not_have_the_least_basis(self):
        self.assertEqual(first_around(Code(4, ())).basis, (12, 3))
        self.assertEqual(codes_around(Code(4, ()))[0].basis, (9, 6))


if __name__ == "__main__":
    unittest.main()
