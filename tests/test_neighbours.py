"""[0.11], [0.14] and [4.1] to [4.5]: neighbours, held against all own codes of short lengths."""

import itertools
import random
import unittest

from ownchecks.base.spans import binomial, remainder_of
from ownchecks.code.codes import Code, does_hold, has_word
from ownchecks.errors import InvalidOperation, TooMany
from ownchecks.near.neighbours import distance, is_way, nearer, neighbour, neighbours, shared, steps_from, way
from ownchecks.near.neighbours import ways_count
from tests import naive
from tests.kinds import EIGHT, PLAIN, plain, told

LENGTHS = (2, 4, 6, 8)


def shifted(length):
    """The pairs of places of the plain code, but one place further: the two have just 0 and all in common."""
    return Code(length, tuple(3 << place for place in range(1, length - 1, 2)) + (2 ** (length - 1) + 1,))


def made(length, many, seed):
    """Own codes of a greater length: led by neighbours from the plain one, and from one another."""
    source = random.Random(seed)
    code = plain(length)
    for _ in range(many):
        for _ in range(source.randrange(1, 4)):
            word = source.randrange(2 ** length)
            if naive.ones(word) % 2 == 0 and not has_word(code, word):
                code = neighbour(code, word)
        yield code


class Made(unittest.TestCase):
    def test_by_each_word(self):
        for length in LENGTHS:
            every = naive.own_codes(length)
            for span, code in told(length)[:40]:
                for word in range(2 ** length):
                    if naive.ones(word) % 2 or word in span:
                        with self.assertRaises(InvalidOperation):
                            neighbour(code, word)
                        continue
                    kept = {one for one in span if naive.even(one, word)}
                    expected = frozenset(kept | {one ^ word for one in kept})
                    self.assertEqual(neighbour(code, word), Code(length, naive.basis(expected)))
                    self.assertEqual([len(kept) * 2, naive.apart(span, expected)], [len(span), 1])
                    if word < 64:
                        self.assertIn(expected, every)

    def test_all_of_them(self):
        for length in LENGTHS:
            codes = told(length)
            for span, code in codes:
                expected = sorted(other.basis for more, other in codes if naive.apart(span, more) == 1)
                answer = neighbours(code)
                self.assertIs(type(answer), tuple)
                self.assertEqual([other.basis for other in answer], expected)
                self.assertEqual({other.length for other in answer} | {length}, {length})
                self.assertEqual(len(answer), 2 ** (length // 2) - 2)

    def test_each_one_is_made_by_each_of_its_other_words(self):
        for span, code in told(6):
            for other in neighbours(code):
                words = naive.sums(other.basis) - span
                self.assertEqual(len(words) * 2, len(span))
                for word in words:
                    self.assertEqual(neighbour(code, word), other)

    def test_each_one_has_the_code_as_a_neighbour(self):
        for length in LENGTHS:
            for _, code in told(length)[:30]:
                for other in neighbours(code):
                    self.assertIn(code, neighbours(other))
                    self.assertEqual(distance(code, other), 1)

    def test_longer_codes(self):
        for length in (10, 12, 14, 16):
            for code in made(length, 3, length):
                answer = neighbours(code)
                bases = [other.basis for other in answer]
                self.assertEqual(bases, sorted(set(bases)))
                self.assertEqual(len(bases), 2 ** (length // 2) - 2)
                self.assertEqual({distance(code, other) for other in answer}, {1})

    def test_lengths(self):
        self.assertEqual(neighbours(Code(2, (3,))), ())
        self.assertEqual(len(neighbours(plain(16))), 254)
        for length in (18, 20, 22, 24):
            with self.assertRaises(TooMany) as caught:
                neighbours(plain(length))
            self.assertEqual(caught.exception.limit, 16)
            self.assertEqual(distance(plain(length), neighbour(plain(length), 5)), 1)
        self.assertEqual(neighbour(plain(24), 5).basis[-2:], (10, 5))


class Which(unittest.TestCase):
    def test_words_that_differ_by_a_word_of_the_code(self):
        for span, code in told(4) + told(6)[:5] + told(8)[:2]:
            outside = [word for word in range(2 ** code.length) if naive.ones(word) % 2 == 0 and word not in span]
            for word, one in itertools.product(outside, span):
                same = neighbour(code, word) == neighbour(code, word ^ one)
                self.assertIs(same, naive.even(one, word))

    def test_two_for_each_remainder(self):
        for length in (4, 6, 8):
            for span, code in told(length)[::9]:
                found = {}
                for word in range(2 ** length):
                    if naive.ones(word) % 2 == 0 and word not in span:
                        rest = remainder_of(length, code.basis, word)
                        found.setdefault(rest, set()).add(neighbour(code, word).basis)
                self.assertEqual({len(bases) for bases in found.values()}, {2})
                self.assertEqual(len(found) * 2, len(set().union(*found.values())))


class Apart(unittest.TestCase):
    def steps(self, codes):
        """For each two codes the fewest steps, by a walk from neighbour to neighbour."""
        near = {one: [other for other in codes if naive.apart(one, other) == 1] for one in codes}
        for one in codes:
            found, latest = {one: 0}, [one]
            while latest:
                fresh = []
                for at in latest:
                    for other in near[at]:
                        if other not in found:
                            found[other] = found[at] + 1
                            fresh.append(other)
                latest = fresh
            yield one, found

    def test_fewest_steps(self):
        for length in LENGTHS:
            codes = dict(told(length))
            for one, found in self.steps(list(codes)):
                self.assertEqual(len(found), len(codes))
                for other, fewest in found.items():
                    self.assertEqual(fewest, naive.apart(one, other))
                    self.assertEqual(distance(codes[one], codes[other]), fewest)

    def test_shared(self):
        for length in LENGTHS:
            for (one, code), (other, more) in itertools.product(told(length)[:60], told(length)):
                self.assertEqual(shared(code, more), Code(length, naive.basis(one & other)))
                self.assertEqual(length // 2 - shared(code, more).dimension, distance(code, more))

    def test_how_many_at_each_distance(self):
        for length in LENGTHS:
            most = length // 2 - 1
            for _, code in told(length)[::7]:
                found = [distance(code, other) for _, other in told(length)]
                expected = [2 ** (steps * (steps + 1) // 2) * binomial(most, steps) for steps in range(most + 1)]
                self.assertEqual([found.count(steps) for steps in range(most + 1)], expected)
                self.assertEqual(sum(expected), len(found))

    def test_a_code_and_itself(self):
        for length in range(2, 26, 2):
            code = plain(length)
            self.assertEqual([distance(code, code), shared(code, code)], [0, code])
            self.assertEqual(steps_from(code, code), (0, 0, 2 ** (length // 2) - 2))

    def test_the_greatest_distance(self):
        for length in range(2, 26, 2):
            self.assertEqual(distance(plain(length), shifted(length)), length // 2 - 1)
            self.assertEqual(shared(plain(length), shifted(length)), Code(length, (2 ** length - 1,)))


class Nearer(unittest.TestCase):
    def counted(self, span, other, codes):
        near = [one for one in codes if naive.apart(span, one) == 1]
        found = [naive.apart(one, other) - naive.apart(span, other) for one in near]
        return found.count(-1), found.count(0), found.count(1)

    def test_steps_from(self):
        for length in LENGTHS:
            codes = told(length)
            for (span, code), (other, more) in itertools.product(codes[::6], codes):
                expected = self.counted(span, other, naive.own_codes(length))
                self.assertEqual(steps_from(code, more), expected)
                far = naive.apart(span, other)
                most = length // 2 - 1
                self.assertEqual(expected, (2 ** far - 1, 2 ** far - 1, 2 ** (far + 1) * (2 ** (most - far) - 1)))

    def test_nearer_ones(self):
        for length in LENGTHS:
            codes = told(length)
            for (span, code), (other, more) in itertools.product(codes[::7], codes[::2]):
                near = [one for one in naive.own_codes(length) if naive.apart(span, one) == 1]
                expected = [naive.basis(one) for one in near if naive.apart(one, other) < naive.apart(span, other)]
                answer = nearer(code, more)
                self.assertIs(type(answer), tuple)
                self.assertEqual([one.basis for one in answer], sorted(expected))
                self.assertEqual({one.length for one in answer} | {length}, {length})

    def test_which_words_lead_farther(self):
        for (span, code), (other, more) in itertools.product(told(6)[:5], told(6)):
            for word in range(64):
                if naive.ones(word) % 2 == 0 and word not in span:
                    farther = distance(neighbour(code, word), more) > distance(code, more)
                    self.assertIs(farther, not all(naive.even(word, one) for one in span & other))

    def test_longer_codes(self):
        for length in (10, 12, 14, 16):
            codes = list(made(length, 6, length + 1))
            for one, other in itertools.product(codes[:2], codes):
                far = distance(one, other)
                steps = [distance(more, other) - far for more in neighbours(one)]
                self.assertEqual(steps_from(one, other), (steps.count(-1), steps.count(0), steps.count(1)))
                expected = [more for more in neighbours(one) if distance(more, other) < far]
                self.assertEqual(list(nearer(one, other)), expected)

    def test_lengths(self):
        pair = Code(2, (3,))
        self.assertEqual([nearer(pair, pair), steps_from(pair, pair)], [(), (0, 0, 0)])
        self.assertEqual(nearer(plain(16), plain(16)), ())
        for length in (18, 24):
            other = neighbour(plain(length), 5)
            with self.assertRaises(TooMany) as caught:
                nearer(plain(length), other)
            self.assertEqual(caught.exception.limit, 16)
            self.assertEqual(steps_from(plain(length), other), (1, 1, 2 ** (length // 2) - 4))


class Ways(unittest.TestCase):
    def is_right(self, one, other, steps):
        if [naive.sums(steps[0].basis), naive.sums(steps[-1].basis)] != [one, other]:
            return False
        spans = [naive.sums(step.basis) for step in steps]
        return all(naive.apart(low, high) == 1 for low, high in zip(spans, spans[1:]))

    def test_shortest_ones(self):
        for length in LENGTHS:
            for (one, code), (other, more) in itertools.product(told(length)[::5], told(length)):
                answer = way(code, more)
                self.assertIs(type(answer), tuple)
                self.assertEqual(len(answer), naive.apart(one, other) + 1)
                self.assertTrue(self.is_right(one, other, answer))
                self.assertIs(is_way(code, more, answer), True)

    def test_all_rows_of_codes_are_judged(self):
        for length, many in ((2, 1), (4, 3), (6, 4)):
            codes = told(length)
            for (one, code), (other, more) in itertools.product(codes[:many], codes[:many + 4]):
                right = 0
                for steps in range(1, length // 2 + 1):
                    for row in itertools.product([step for _, step in codes], repeat=steps):
                        expected = steps == naive.apart(one, other) + 1 and self.is_right(one, other, row)
                        if expected or row[0] == code:
                            self.assertIs(is_way(code, more, row), expected)
                        right += expected
                self.assertEqual(right, ways_count(length, naive.apart(one, other)))

    def test_longer_ones(self):
        for length in range(10, 26, 2):
            codes = [*made(length, 5, length + 2), shifted(length)]
            for one, other in itertools.product([plain(length)] + codes[:1], codes):
                answer = way(one, other)
                self.assertEqual([len(answer), answer[0], answer[-1]], [distance(one, other) + 1, one, other])
                self.assertTrue(all(distance(low, high) == 1 for low, high in zip(answer, answer[1:])))
                self.assertIs(is_way(one, other, answer), True)
                self.assertIs(is_way(other, one, answer[::-1]), True)
                self.assertIs(is_way(other, one, answer), one == other)

    def test_a_code_and_itself(self):
        for code in (Code(2, (3,)), PLAIN, plain(24)):
            self.assertEqual(way(code, code), (code,))
            self.assertIs(is_way(code, code, (code,)), True)
            self.assertIs(is_way(code, code, ()), False)
            self.assertIs(is_way(code, code, (code, code)), False)

    def test_no_other_value_is_right(self):
        far = neighbour(neighbour(PLAIN, 5), 17)
        answer = way(PLAIN, far)
        middle = answer[1]
        beside = [one for one in neighbours(PLAIN) if distance(one, far) == 2][0]
        for value in (None, True, 0, "way", (), list(answer), {0: PLAIN}, answer[:2], answer[1:], answer + (far,),
                      (PLAIN,) + answer, answer[::-1], (PLAIN, PLAIN, far), (PLAIN, far, far), (PLAIN, far),
                      (PLAIN, beside, far), (PLAIN, None, far), (PLAIN, middle.basis, far), (PLAIN, (middle,), far),
                      (PLAIN, Code(8, middle.basis[1:]), far), (PLAIN, Code(10, middle.basis), far),
                      (PLAIN, plain(10), far), (PLAIN, Code(8, middle.basis + (1,)), far), (None, middle, far),
                      (PLAIN, middle, None), (PLAIN.basis, middle.basis, far.basis), (middle, PLAIN, far), (answer,),
                      (PLAIN, middle, EIGHT), (EIGHT, middle, far), 5000 * (PLAIN,), (PLAIN, 10 ** 5000, far)):
            self.assertIs(is_way(PLAIN, far, value), False)
        self.assertIs(is_way(PLAIN, far, answer), True)
        self.assertIs(is_way(PLAIN, far, tuple(Code(8, step.basis) for step in answer)), True)

    def test_ways_count(self):
        for length in range(2, 26, 2):
            expected = 1
            for steps in range(length // 2):
                if steps:
                    expected *= 2 ** steps - 1
                self.assertEqual(ways_count(length, steps), expected)

    def test_ways_go_over_each_nearer_one(self):
        codes = told(8)
        known = {(code.basis, code.basis): 1 for _, code in codes}
        for steps in range(1, 4):
            for (_, one), (_, other) in itertools.product(codes, codes[:2]):
                if distance(one, other) == steps:
                    known[one.basis, other.basis] = sum(known[step.basis, other.basis] for step in nearer(one, other))
                    self.assertEqual(known[one.basis, other.basis], ways_count(8, steps))


class Untrue(unittest.TestCase):
    """What [4.5] calls untrue."""

    def test_two_neighbours_of_one_are_farther_apart(self):
        found = {distance(one, other) for one, other in itertools.combinations(neighbours(PLAIN), 2)}
        self.assertEqual(found, {1, 2})

    def test_at_the_greatest_distance_all_is_shared(self):
        for _, other in told(8):
            if distance(PLAIN, other) == 3:
                self.assertEqual(shared(PLAIN, other).basis, (255,))
                self.assertIs(does_hold(other, Code(8, (255,))), True)

    def test_more_than_one_at_the_greatest_distance(self):
        self.assertEqual(len([other for _, other in told(8) if distance(EIGHT, other) == 3]), 64)


if __name__ == "__main__":
    unittest.main()
