"""[0.13] and [5.1] to [5.7]: all own codes, held against those that the tests grow by themselves."""

import inspect
import itertools
import random
import unittest

from ownchecks.base.spans import binomial
from ownchecks.code.codes import Code, has_word, is_own
from ownchecks.errors import InvalidNumber, InvalidOperation, TooMany
from ownchecks.near.every import address_of, child, code_at, code_by, codes, count_at, count_of, digit_of, number_of
from ownchecks.near.every import parent, parents
from ownchecks.near.neighbours import distance
from tests import naive
from tests.kinds import EIGHT, PLAIN, plain, told

LENGTHS = (2, 4, 6, 8)


def some(length, many):
    """Own codes of any length, made by numbers."""
    source = random.Random(length)
    for _ in range(many):
        yield code_by(length, source.randrange(count_of(length)))


def naive_child(length, span, one, other):
    rest = [place for place in range(length) if place not in (one, other)]
    return frozenset(naive.cut(word, rest) for word in span if word >> one & 1 == word >> other & 1)


def naive_parent(length, span, digit):
    """The parent with the digit, word by word as the document tells it."""
    both = 2 ** length + 2 ** (length + 1)
    if digit == 0:
        return naive.sums(list(span) + [both])
    bits, side = (digit - 1) // 2, (digit - 1) % 2
    tops = naive.heads(span)
    free = [place for place in range(length) if place not in tops]
    fitting = []
    for word in range(2 ** length):
        at_free = sum(2 ** at for at, place in enumerate(free[1:]) if word >> place & 1)
        if naive.ones(word) % 2 and at_free == bits and not any(word >> top & 1 for top in tops):
            fitting.append(word)
    assert len(fitting) == 1
    rest = fitting[0]
    rows = [word if naive.even(word, rest) else word + both for word in span]
    return naive.sums(rows + [rest + 2 ** (length + side)])


class Children(unittest.TestCase):
    def test_at_each_two_places(self):
        for length in (4, 6, 8):
            smaller = naive.own_codes(length - 2)
            for span, code in told(length):
                for one, other in itertools.combinations(range(length), 2):
                    expected = naive_child(length, span, one, other)
                    self.assertIn(expected, smaller)
                    self.assertEqual(child(code, one, other), Code(length - 2, naive.basis(expected)))

    def test_either_the_word_of_both_or_half_are_alike(self):
        for length in (4, 6, 8):
            for span, code in told(length):
                for one, other in itertools.combinations(range(length), 2):
                    alike = [word for word in span if word >> one & 1 == word >> other & 1]
                    if 2 ** one + 2 ** other in span:
                        self.assertEqual(len(alike), len(span))
                    else:
                        self.assertEqual(len(alike) * 2, len(span))
                    self.assertEqual(2 ** child(code, one, other).dimension * 2, len(span))

    def test_longer_codes(self):
        for length in (10, 12, 14):
            for code in some(length, 4):
                for one, other in ((0, 1), (0, length - 1), (3, 7), (length - 2, length - 1)):
                    expected = naive_child(length, naive.sums(code.basis), one, other)
                    self.assertEqual(child(code, one, other), Code(length - 2, naive.basis(expected)))
        for code in some(24, 4):
            self.assertIs(is_own(child(code, 5, 17)), True)
            self.assertEqual(child(code, 0, 23).length, 22)

    def test_places(self):
        for code in (Code(2, (3,)), Code(4, (3, 12)), PLAIN, plain(24)):
            length = code.length
            for place in (-1, length, length + 1, 24, True, None, 10 ** 60):
                for places in ((place, 0), (0, place), (place, place)):
                    with self.assertRaises(InvalidNumber) as caught:
                        child(code, *places)
                    self.assertIs(caught.exception.given, place)
            for one, other in itertools.product(range(length), repeat=2):
                if one >= other or length == 2:
                    with self.assertRaises(InvalidOperation):
                        child(code, one, other)
        self.assertEqual(child(Code(4, (3, 12)), 0, 1), Code(2, (3,)))


class Parents(unittest.TestCase):
    def test_with_each_digit(self):
        for length in (2, 4, 6):
            for span, code in told(length):
                for digit in range(2 ** (length // 2) + 1):
                    expected = naive_parent(length, span, digit)
                    self.assertEqual(parent(code, digit), Code(length + 2, naive.basis(expected)))

    def test_just_those_whose_child_it_is(self):
        for length in (2, 4, 6):
            larger = naive.own_codes(length + 2)
            for span, code in told(length):
                answer = parents(code)
                self.assertIs(type(answer), tuple)
                self.assertEqual(list(answer), [parent(code, digit) for digit in range(2 ** (length // 2) + 1)])
                expected = [naive.basis(one) for one in larger
                            if naive_child(length + 2, one, length, length + 1) == span]
                self.assertEqual(sorted(one.basis for one in answer), sorted(expected))
                self.assertEqual(len(set(expected)), 2 ** (length // 2) + 1)

    def test_digits_back(self):
        for length in LENGTHS:
            for _, code in told(length):
                for digit, one in enumerate(parents(code)):
                    self.assertEqual([digit_of(one), child(one, length, length + 1)], [digit, code])
        for length in (4, 6, 8):
            for _, code in told(length):
                self.assertEqual(parent(child(code, length - 2, length - 1), digit_of(code)), code)

    def test_longer_codes(self):
        for length in range(10, 24, 2):
            many = 2 ** (length // 2)
            for code in some(length, 3):
                for digit in {0, 1, 2, 3, many // 2, many - 1, many}:
                    one = parent(code, digit)
                    self.assertEqual([one.length, is_own(one), digit_of(one)], [length + 2, True, digit])
                    self.assertEqual(child(one, length, length + 1), code)
        code = next(some(14, 1))
        self.assertEqual([digit_of(one) for one in parents(code)], list(range(129)))

    def test_edges(self):
        first = Code(2, (3,))
        self.assertEqual([one.basis for one in parents(first)], [(12, 3), (10, 5), (9, 6)])
        for digit in (-1, 3, 10 ** 60, True, None, (0,)):
            with self.assertRaises(InvalidNumber) as caught:
                parent(first, digit)
            self.assertIs(caught.exception.given, digit)
        for code in some(24, 2):
            for digit in (0, 4096):
                with self.assertRaises(TooMany) as caught:
                    parent(code, digit)
                self.assertEqual(caught.exception.limit, 24)
            with self.assertRaises(InvalidNumber) as caught:
                parent(code, 4097)
            self.assertEqual(caught.exception.given, 4097)
        self.assertEqual(parent(plain(22), 2048).length, 24)
        with self.assertRaises(InvalidNumber):
            parent(plain(22), 2049)
        self.assertEqual(len(parents(plain(14))), 129)
        for length in range(16, 26, 2):
            with self.assertRaises(TooMany) as caught:
                parents(plain(length))
            self.assertEqual(caught.exception.limit, 14)
        with self.assertRaises(InvalidOperation):
            digit_of(first)
        self.assertEqual([digit_of(Code(4, (3, 12))), digit_of(plain(24))], [0, 0])


class Addresses(unittest.TestCase):
    def test_digits_of_the_codes_that_are_left(self):
        for length in LENGTHS:
            for _, code in told(length):
                digits, left = [], code
                while left.length > 2:
                    digits.insert(0, digit_of(left))
                    left = child(left, left.length - 2, left.length - 1)
                self.assertEqual(address_of(code), tuple(digits))
                self.assertEqual(code_at(tuple(digits)), code)

    def test_each_tuple_is_one_codes(self):
        for length in LENGTHS:
            addresses = list(itertools.product(*[range(2 ** at + 1) for at in range(1, length // 2)]))
            self.assertEqual([address_of(code_at(address)) for address in addresses], addresses)
            found = [code_at(address) for address in addresses]
            self.assertEqual(sorted(code.basis for code in found), sorted(code.basis for _, code in told(length)))
            # numbers count the addresses that are less
            self.assertEqual([number_of(code) for code in found], list(range(len(found))))
            self.assertEqual([code_by(length, number) for number in range(len(found))], found)

    def test_longer_codes(self):
        for length in range(10, 26, 2):
            source = random.Random(length)
            many = count_of(length)
            for number in [0, 1, many // 2, many - 2, many - 1] + [source.randrange(many) for _ in range(10)]:
                code = code_by(length, number)
                self.assertEqual([code.length, is_own(code), number_of(code)], [length, True, number])
                address = address_of(code)
                self.assertIs(type(address), tuple)
                self.assertEqual([len(address), code_at(address)], [length // 2 - 1, code])
                counted = 0
                for at, digit in enumerate(address, 1):
                    counted = counted * (2 ** at + 1) + digit
                self.assertEqual(counted, number)

    def test_the_sequence_of_numbers(self):
        for length in (10, 16, 24):
            source = random.Random(length + 1)
            numbers = sorted(source.randrange(count_of(length)) for _ in range(20))
            addresses = [address_of(code_by(length, number)) for number in numbers]
            self.assertEqual(addresses, sorted(addresses))

    def test_edges(self):
        self.assertEqual([address_of(Code(2, (3,))), code_at(()), number_of(Code(2, (3,))), code_by(2, 0)],
                         [(), Code(2, (3,)), 0, Code(2, (3,))])
        most = tuple(2 ** at for at in range(1, 12))
        self.assertEqual(number_of(code_at(most)), count_of(24) - 1)
        self.assertEqual([code_at((0,) * 11), address_of(plain(24))], [plain(24), (0,) * 11])
        for address in (most + (0,), (0,) * 12, (3,), (0, 5), (0, 0, 9), (-1,), (0, -1), (0,) * 10 + (2049,), (True,),
                        (0, False), (None,), ("0",), [0], [], None, 0, "", {0: 0}, ((0,),), (10 ** 60,), (0, [0])):
            with self.assertRaises(InvalidOperation):
                code_at(address)
        for length in range(2, 26, 2):
            for number in (-1, count_of(length), count_of(length) + 1, 10 ** 60, True, None, "0", (0,)):
                with self.assertRaises(InvalidNumber) as caught:
                    code_by(length, number)
                self.assertIs(caught.exception.given, number)


class HowMany(unittest.TestCase):
    def test_all_of_them(self):
        self.assertEqual([count_of(length) for length in LENGTHS], [len(naive.own_codes(at)) for at in LENGTHS])
        for length in range(2, 26, 2):
            expected = 1
            for at in range(1, length // 2):
                expected *= 2 ** at + 1
            self.assertEqual(count_of(length), expected)
            if length > 2:
                # each code comes from just one code, and each one of those from as many
                self.assertEqual(count_of(length), count_of(length - 2) * (2 ** (length // 2 - 1) + 1))

    def test_at_each_distance(self):
        for length in LENGTHS:
            for one in naive.own_codes(length)[::9]:
                found = [naive.apart(one, other) for other in naive.own_codes(length)]
                for steps in range(length // 2):
                    self.assertEqual(count_at(length, steps), found.count(steps))
        for length in range(2, 26, 2):
            most = length // 2 - 1
            told_ones = [count_at(length, steps) for steps in range(most + 1)]
            self.assertEqual(sum(told_ones), count_of(length))
            self.assertEqual(told_ones, [2 ** (at * (at + 1) // 2) * binomial(most, at) for at in range(most + 1)])

    def test_in_a_words_company(self):
        for length in (4, 6, 8):
            for word in range(1, 2 ** length - 1):
                if naive.ones(word) % 2 == 0:
                    found = len([code for code in codes(length) if has_word(code, word)])
                    self.assertEqual(found, count_of(length - 2))
                    self.assertEqual(found * (2 ** (length // 2 - 1) + 1), count_of(length))


class Walks(unittest.TestCase):
    def test_all_codes_ascending_by_addresses(self):
        for length in LENGTHS:
            found = list(codes(length))
            self.assertEqual({type(code) for code in found}, {Code})
            self.assertEqual(sorted(code.basis for code in found), sorted(code.basis for _, code in told(length)))
            self.assertEqual([number_of(code) for code in found], list(range(count_of(length))))
            addresses = [address_of(code) for code in found]
            self.assertEqual(addresses, sorted(addresses))

    def test_the_greatest_length(self):
        found = list(codes(10))
        self.assertEqual([len(found), len({code.basis for code in found})], [2295, 2295])
        self.assertTrue(all(is_own(code) and code.length == 10 for code in found))
        self.assertEqual([number_of(code) for code in found], list(range(2295)))

    def test_a_generator(self):
        walk = codes(8)
        self.assertTrue(inspect.isgenerator(walk))
        self.assertEqual(next(walk), PLAIN)
        self.assertEqual(len(list(walk)), 134)
        self.assertEqual(list(walk), [])

    def test_errors_come_with_the_first_code(self):
        for length in (0, 1, 3, 9, 11, 13, 23, 25, 26, -2, True, None, "8", (8,), 10 ** 60):
            walk = codes(length)
            with self.assertRaises(InvalidNumber) as caught:
                next(walk)
            self.assertIs(caught.exception.given, length)
        for length in (12, 14, 16, 18, 20, 22, 24):
            walk = codes(length)
            with self.assertRaises(TooMany) as caught:
                next(walk)
            self.assertEqual(caught.exception.limit, 10)

    def test_two_walks_at_once(self):
        one, other = codes(6), codes(6)
        expected = [code_by(6, number) for number in range(15)]
        found = [next(one), next(one), next(one)]
        self.assertEqual([next(other) for _ in range(5)], expected[:5])
        self.assertEqual(found + list(one), expected)
        self.assertEqual(list(other), expected[5:])
        pairs = [(code, more) for code in codes(6) for more in codes(6)]
        self.assertEqual(pairs, list(itertools.product(expected, repeat=2)))


class Untrue(unittest.TestCase):
    """What [5.7] calls untrue."""

    def test_the_child_of_a_parent_at_other_places(self):
        one = parent(EIGHT, 1)
        self.assertEqual(child(one, 8, 9), EIGHT)
        self.assertNotEqual(child(one, 0, 1), EIGHT)
        self.assertEqual(distance(child(one, 0, 1), EIGHT), 1)

    def test_unlike_addresses_and_one_child(self):
        self.assertNotEqual(address_of(PLAIN), address_of(EIGHT))
        self.assertEqual(child(PLAIN, 6, 7), child(EIGHT, 6, 7))

    def test_parents_of_a_code_by_fours_are_not_by_fours(self):
        self.assertEqual({naive.ones(word) % 4 for word in naive.sums(EIGHT.basis)}, {0})
        for one in parents(EIGHT):
            self.assertIn(2, {naive.ones(word) % 4 for word in naive.sums(one.basis)})


if __name__ == "__main__":
    unittest.main()
