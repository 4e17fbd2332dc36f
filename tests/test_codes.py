"""[0.9] and [2.1] to [2.6]: codes, held against sets of words that are gone through in full."""

import itertools
import unittest

from ownchecks.base.spans import basis_of, free_places
from ownchecks.code.codes import Code, does_hold, dual, even_part, has_word, is_own, is_own_or_shown
from ownchecks.code.codes import own_or_shown, part_on, trace_on, words_of
from ownchecks.errors import TooMany
from tests import naive
from tests.kinds import EIGHT, PLAIN, SEVENS, STRIP, small_codes

UNITS = tuple(2 ** place for place in range(24))
PAIRS = tuple(3 * 4 ** at for at in range(12))
LONGEST = Code(24, PAIRS)
ODD_VALUES = (None, True, False, "", "own", -1, 2 ** 24, 10 ** 5000, -10 ** 5000, (), (3,), [3], {3: 3}, Code(4, (3,)))


class Codes(unittest.TestCase):
    def test_told_by_length_and_basis(self):
        for length, words in itertools.chain(naive.small_tuples(), naive.made_tuples(21, range(5, 25), 9, 4)):
            code = Code(length, words)
            basis = naive.basis(naive.sums(words))
            self.assertEqual([code.length, code.basis, code.dimension], [length, basis, len(basis)])
            self.assertEqual(str(code), f"code of length {length}, dimension {len(basis)}")
            self.assertEqual(code, Code(length, basis))

    def test_equal_if_length_and_words_are(self):
        told = [(length, span, code) for length, span, code in small_codes(1, 3)]
        for (length, span, code), (other_length, other_span, other) in itertools.product(told, repeat=2):
            same = length == other_length and span == other_span
            self.assertIs(code == other, same)
            self.assertIs(code != other, not same)
        self.assertIs(Code(8, (3, 12, 15, 0)) == Code(8, (12, 15)), True)
        self.assertIs(Code(4, (3,)) == Code(5, (3,)), False)
        self.assertIs(Code(4, ()) != Code(5, ()), True)

    def test_equality_takes_every_value(self):
        code = Code(4, (3,))
        for value in (None, True, 3, 10 ** 90, "code of length 4, dimension 1", (), (4, (3,)), [code], {4: (3,)}):
            self.assertIs(code == value, False)
            self.assertIs(code != value, True)
            self.assertIs(value == code, False)
        self.assertIs(code in [None, 3, (3,), Code(4, (3, 3))], True)
        self.assertIs(code in [None, 3, (3,), Code(4, (5,))], False)

    def test_it_never_changes(self):
        code = Code(4, (3, 12))
        for name in ("length", "basis", "dimension"):
            with self.assertRaises(AttributeError):
                setattr(code, name, 1)
        self.assertEqual([code.length, code.basis, code.dimension], [4, (12, 3), 2])

    def test_no_call_changes_its_codes(self):
        for code in (PLAIN, EIGHT, Code(5, (19, 7)), Code(1, ())):
            told = code.length, code.basis, code.dimension
            for call in (dual, even_part, is_own, own_or_shown, words_of):
                first = call(code)
                self.assertEqual(first, call(code))
            for call in (part_on, trace_on):
                self.assertEqual(call(code, (0,)), call(code, (0,)))
            does_hold(code, code)
            self.assertEqual((code.length, code.basis, code.dimension), told)

    def test_it_is_not_iterated_over(self):
        with self.assertRaises(TypeError):
            iter(EIGHT)
        with self.assertRaises(TypeError):
            list(EIGHT)

    def test_edges(self):
        self.assertEqual([Code(1, ()).basis, Code(1, (0,)).basis, Code(1, (1, 1)).basis], [(), (), (1,)])
        self.assertEqual([Code(24, UNITS).dimension, Code(24, (0,) * 64).dimension], [24, 0])
        self.assertEqual(Code(24, (2 ** 24 - 1,) * 64).basis, (2 ** 24 - 1,))
        self.assertEqual([str(Code(24, UNITS)), str(Code(1, ()))],
                         ["code of length 24, dimension 24", "code of length 1, dimension 0"])


class Words(unittest.TestCase):
    def test_words_of(self):
        for _, span, code in small_codes(1, 4):
            self.assertEqual(words_of(code), tuple(sorted(span)))

    def test_most_listed(self):
        self.assertEqual(words_of(Code(24, UNITS[12:])), tuple(4096 * index for index in range(4096)))
        self.assertEqual(words_of(LONGEST), tuple(sorted(naive.sums(PAIRS))))
        for code in (Code(13, UNITS[:13]), Code(24, PAIRS + (1,)), Code(24, UNITS)):
            with self.assertRaises(TooMany) as caught:
                words_of(code)
            self.assertEqual(caught.exception.limit, 12)

    def test_has_word(self):
        for length, span, code in small_codes(1, 4):
            for word in range(-2, 2 ** length + 5):
                self.assertIs(has_word(code, word), word in span)
        for value in ODD_VALUES:
            self.assertIs(has_word(Code(4, UNITS[:4]), value), False)
        for value in (True, False):
            self.assertIs(has_word(Code(1, (1,)), value), False)

    def test_does_hold(self):
        for length in range(1, 5):
            told = [(span, code) for _, span, code in small_codes(length, length)]
            for (span, code), (other_span, other) in itertools.product(told, repeat=2):
                self.assertIs(does_hold(code, other), other_span <= span)


class Duals(unittest.TestCase):
    def test_dual(self):
        for length, span, code in small_codes(1, 5):
            checks = naive.checks(length, span)
            self.assertEqual([dual(code).length, dual(code).basis], [length, naive.basis(checks)])
            self.assertEqual(code.dimension + dual(code).dimension, length)
            self.assertEqual(dual(dual(code)), code)
            self.assertIs(is_own(code), checks == span)

    def test_held_exactly_if_the_duals_are_the_other_way_round(self):
        told = [(code, dual(code)) for _, _, code in small_codes(4, 4)]
        for (code, checks), (other, others) in itertools.product(told, repeat=2):
            self.assertIs(does_hold(code, other), does_hold(others, checks))

    def test_the_word_for_a_free_place(self):
        for length, _, code in small_codes(1, 5):
            free = free_places(length, code.basis)
            made = []
            for place in free:
                word = 2 ** place
                for row in code.basis:
                    if row >> place & 1:
                        word += 2 ** naive.highest(row)
                self.assertTrue(has_word(dual(code), word))
                made.append(word)
            self.assertEqual(Code(length, tuple(made)), dual(code))

    def test_longer_codes(self):
        for length, words in naive.made_tuples(22, range(6, 25), 30, 5):
            code, other = Code(length, words), dual(Code(length, words))
            self.assertEqual(code.dimension + other.dimension, length)
            self.assertTrue(all(naive.even(one, two) for one in code.basis for two in other.basis))
            self.assertEqual(dual(other), code)

    def test_how_many_are_own(self):
        counted = {length: 0 for length in range(1, 7)}
        for length, _, code in small_codes(1, 6):
            counted[length] += is_own(code)
        self.assertEqual(counted, {1: 0, 2: 1, 3: 0, 4: 3, 5: 0, 6: 15})

    def test_own_ones(self):
        for code in (PLAIN, EIGHT, LONGEST, SEVENS, STRIP, Code(2, (3,))):
            self.assertIs(is_own(code), True)
            self.assertEqual(dual(code), code)
            self.assertEqual([code.dimension * 2, has_word(code, 2 ** code.length - 1)], [code.length, True])
        for code in (Code(1, ()), Code(1, (1,)), Code(24, PAIRS[1:]), Code(24, PAIRS + (1,)), Code(24, ())):
            self.assertIs(is_own(code), False)


class OwnOrShown(unittest.TestCase):
    def is_right(self, length, span, value):
        if value == ("own",):
            return naive.checks(length, span) == span
        if value[0] == "odd":
            return value[1] in span and value[2] in span and not naive.even(value[1], value[2])
        return value[1] not in span and all(naive.even(value[1], word) for word in span)

    def test_answers(self):
        for length, span, code in small_codes(1, 5):
            answer = own_or_shown(code)
            self.assertTrue(self.is_right(length, span, answer))
            self.assertIs(is_own_or_shown(code, answer), True)

    def test_all_values_are_judged(self):
        for length, span, code in small_codes(1, 4):
            pairs = itertools.product(range(2 ** length), repeat=2)
            values = [("own",)] + [("odd", *pair) for pair in pairs] + [("outside", at) for at in range(2 ** length)]
            right = [value for value in values if is_own_or_shown(code, value)]
            self.assertEqual(right, [value for value in values if self.is_right(length, span, value)])
            # either own, or shown: never both, and never neither
            self.assertTrue(right)
            self.assertEqual(right == [("own",)], is_own(code))
            self.assertEqual(("own",) in right, is_own(code))
            kinds = {value[0] for value in right}
            checks = naive.checks(length, span)
            self.assertEqual("odd" in kinds, not span <= checks)
            self.assertEqual("outside" in kinds, not checks <= span)

    def test_longer_codes(self):
        for length, words in naive.made_tuples(23, range(6, 25), 14, 6):
            code = Code(length, words)
            self.assertIs(is_own_or_shown(code, own_or_shown(code)), True)
        for code in (PLAIN, EIGHT, LONGEST, SEVENS, STRIP):
            self.assertEqual(own_or_shown(code), ("own",))
            self.assertIs(is_own_or_shown(code, ("own",)), True)
        lacking = Code(24, PAIRS[:-1])
        self.assertEqual(own_or_shown(lacking)[0], "outside")
        self.assertIs(is_own_or_shown(lacking, ("outside", PAIRS[-1])), True)
        self.assertEqual(own_or_shown(Code(24, PAIRS[:-1] + (PAIRS[-1] // 3,)))[0], "odd")

    def test_no_other_value_is_right(self):
        for value in ODD_VALUES:
            self.assertIs(is_own_or_shown(PLAIN, value), False)
        for value in (["own"], ("own", ()), ("own", 3), ("own", None), ("Own",), ("own", "own"), (("own",),),
                      ("odd", 3, 3), ("outside", 3), ("outside", 5), ("odd",), ("outside",), (0,), (True,)):
            self.assertIs(is_own_or_shown(PLAIN, value), False)
        code = Code(4, (1, 12))
        for value in (("odd", 1, 1), ("odd", 13, 1), ("odd", 1, 13), ("outside", 2), ("outside", 14)):
            self.assertIs(is_own_or_shown(code, value), True)
        for value in (("odd", 1, True), ("odd", True, 1), ("odd", 1), ("odd", 1, 1, 1), ["odd", 1, 1], ("even", 1, 1),
                      ("odd", (1, 1)), ("odd", 1, "1"), ("odd", None, 1), ("odd", 1, 17), ("odd", 17, 1),
                      ("odd", -1, 1), ("odd", 1, 3), ("odd", 3, 1), ("odd", 2, 2), ("odd", 12, 12), ("odd", 1, 12),
                      ("odd", 1, 10 ** 5000 + 1), ("odd", 1, [1]), ("odd", 1, -3),
                      ("outside", 18), ("outside", -2), ("outside", 12), ("outside", 0), ("outside", 1),
                      ("outside", 6), ("outside", "2"), ("outside", (2,)), ("outside", [2]), ("outside", None),
                      ("outside", 2, 2), ["outside", 2], ("outside", True), ("outside", 10 ** 5000), ("inside", 2),
                      ("own",), ("own", 1), (1, 1), (1, 1, 1), ("outside", code), (code, 2), (("odd", 1, 1),)):
            self.assertIs(is_own_or_shown(code, value), False, value)
        self.assertIs(is_own_or_shown(Code(2, (2,)), ("outside", 1)), True)
        self.assertIs(is_own_or_shown(Code(2, (2,)), ("outside", True)), False)


class Lots(unittest.TestCase):
    def test_parts_and_traces(self):
        for length, span, code in small_codes(1, 5):
            for lot in naive.lots(length):
                part, trace = part_on(code, lot), trace_on(code, lot)
                self.assertEqual([part.length, trace.length], [len(lot), len(lot)])
                self.assertEqual(part.basis, naive.basis(naive.part(length, span, lot)))
                self.assertEqual(trace.basis, naive.basis(naive.trace(span, lot)))

    def test_the_dual_of_the_part_is_the_trace_of_the_dual(self):
        for length, _, code in small_codes(1, 4):
            for lot in naive.lots(length):
                self.assertEqual(dual(part_on(code, lot)), trace_on(dual(code), lot))
                self.assertEqual(dual(trace_on(code, lot)), part_on(dual(code), lot))

    def test_dimensions(self):
        for length, _, code in small_codes(2, 5):
            for lot in naive.lots(length):
                rest = tuple(place for place in range(length) if place not in lot)
                if rest:
                    self.assertEqual(trace_on(code, lot).dimension + part_on(code, rest).dimension, code.dimension)

    def test_own_codes(self):
        for code in (PLAIN, EIGHT):
            words = naive.sums(code.basis)
            for lot in naive.lots(8):
                part, trace = part_on(code, lot), trace_on(code, lot)
                self.assertEqual(part.basis, naive.basis(naive.part(8, words, lot)))
                self.assertEqual(trace.basis, naive.basis(naive.trace(words, lot)))
                self.assertEqual(dual(part), trace)
                rest = tuple(place for place in range(8) if place not in lot)
                if rest:
                    self.assertEqual(part.dimension - part_on(code, rest).dimension, len(lot) - 4)

    def test_longer_codes(self):
        for length, words in naive.made_tuples(24, range(6, 25), 9, 3):
            code, span = Code(length, words), naive.sums(words)
            for lot in ((0,), (length - 1,), (0, length - 1), tuple(range(0, length, 2)), tuple(range(length - 2))):
                self.assertEqual(part_on(code, lot), Code(len(lot), naive.basis(naive.part(length, span, lot))))
                self.assertEqual(trace_on(code, lot), Code(len(lot), naive.basis(naive.trace(span, lot))))

    def test_all_places(self):
        for code in (PLAIN, EIGHT, LONGEST, Code(1, ()), Code(1, (1,)), Code(24, UNITS), Code(5, (19, 7))):
            lot = tuple(range(code.length))
            self.assertEqual([part_on(code, lot), trace_on(code, lot)], [code, code])

    def test_one_place(self):
        for place in range(24):
            self.assertEqual(part_on(LONGEST, (place,)), Code(1, ()))
            self.assertEqual(trace_on(LONGEST, (place,)), Code(1, (1,)))
            self.assertEqual(part_on(Code(24, UNITS), (place,)), Code(1, (1,)))
            self.assertEqual(trace_on(Code(24, ()), (place,)), Code(1, ()))

    def test_the_sequence_of_the_lot(self):
        code = Code(5, (9,))
        self.assertEqual([trace_on(code, (0, 2, 3)).basis, trace_on(code, (2, 3, 4)).basis], [(5,), (2,)])
        self.assertEqual([part_on(code, (0, 2, 3)).basis, part_on(code, (0, 1, 2)).basis], [(5,), ()])


class EvenWords(unittest.TestCase):
    def test_even_part(self):
        for length, span, code in small_codes(1, 5):
            even = frozenset(word for word in span if naive.ones(word) % 2 == 0)
            self.assertEqual([even_part(code).length, even_part(code).basis], [length, naive.basis(even)])
            self.assertIn(len(even) * 2, (len(span), len(span) * 2))
            self.assertEqual(even_part(code) == code, has_word(dual(code), 2 ** length - 1))

    def test_longer_codes(self):
        for length, words in naive.made_tuples(25, range(6, 25), 9, 4):
            even = [word for word in naive.sums(words) if naive.ones(word) % 2 == 0]
            self.assertEqual(even_part(Code(length, words)), Code(length, naive.basis(even)))

    def test_edges(self):
        self.assertEqual([even_part(Code(1, (1,))), even_part(Code(1, ()))], [Code(1, ()), Code(1, ())])
        self.assertEqual(even_part(Code(24, UNITS)), dual(Code(24, (2 ** 24 - 1,))))
        self.assertEqual([even_part(LONGEST), even_part(EIGHT)], [LONGEST, EIGHT])
        self.assertEqual(even_part(Code(24, UNITS)).basis, basis_of(24, tuple(3 * one for one in UNITS[:23])))


class Untrue(unittest.TestCase):
    """What [2.6] calls untrue."""

    def test_held_by_its_dual_and_not_own(self):
        code = Code(4, (3,))
        self.assertIs(does_hold(dual(code), code), True)
        self.assertIs(is_own(code), False)
        self.assertEqual(own_or_shown(code)[0], "outside")
        self.assertIs(is_own_or_shown(code, ("own",)), False)

    def test_half_of_the_dimension_even_and_not_own(self):
        code = Code(4, (3, 5))
        self.assertEqual([naive.ones(word) % 2 for word in words_of(code)], [0, 0, 0, 0])
        self.assertEqual(code.dimension * 2, code.length)
        self.assertIs(is_own(code), False)
        self.assertEqual(own_or_shown(code)[0], "odd")
        self.assertIs(is_own_or_shown(code, ("own",)), False)
        self.assertIs(is_own_or_shown(code, ("odd", 3, 5)), True)

    def test_sharing_more_than_0_with_the_dual(self):
        code = Code(4, (3, 5, 9))
        self.assertEqual([has_word(code, 15), has_word(dual(code), 15)], [True, True])

    def test_the_trace_of_an_own_code_is_not_own(self):
        for code, lot in ((EIGHT, (0, 1, 2, 3)), (PLAIN, (0, 2)), (STRIP, (0, 1, 2, 3, 4, 5))):
            self.assertEqual([is_own(code), len(lot) % 2, is_own(trace_on(code, lot))], [True, 0, False])


if __name__ == "__main__":
    unittest.main()
