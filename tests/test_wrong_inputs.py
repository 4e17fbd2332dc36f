"""[0.1], [0.3], [0.4], [0.6]: invalid arguments, one and two at once, and values that are judged."""

import itertools
import unittest

from ownchecks.base import spans
from ownchecks.code import codes
from ownchecks.code.codes import Code
from ownchecks.errors import InvalidCode, InvalidNumber, InvalidOperation, InvalidWord, TooMany

CODE = Code(4, (3, 12))
NO_INTEGERS = (True, False, None, "", "1", "11", (), (1,), [], [1], {}, {1: 1}, ((1,),), CODE)
OUT_OF_RANGE = (-1, -2, -10 ** 59, 10 ** 59, 10 ** 60, -10 ** 60, 10 ** 99, 25 ** 40)
LENGTHS = NO_INTEGERS + OUT_OF_RANGE + (0, 25, 26)
WORDS_OF_4 = NO_INTEGERS + OUT_OF_RANGE + (16, 17, 31, 2 ** 24)
WORDS_OF_24 = NO_INTEGERS + OUT_OF_RANGE + (2 ** 24, 2 ** 24 + 1)
TUPLES_OF_4 = (True, False, None, "", "12", 0, 3, -1, 10 ** 60, [], [3], [3, 12], {}, {3: 12}, CODE,
               (0,) * 65, (3, 12) * 40, (16,), (3, 16), (16, 3), (3, 12, -1), (3, True), (False,), (3, None),
               ("3",), ((3,),), ([3],), (3, (12,)), (10 ** 60,), (3, 10 ** 99), (2 ** 24,), (CODE,), (0,) * 63 + (16,))
PLACES = (True, None, "", "01", 0, 3, 10 ** 60, [], [0], [0, 1], {}, {0: 1}, CODE, (1, 0), (0, 0), (0, 1, 1),
          (2, 3, 1), (-1,), (-1, 0), (True,), (0, True), (False, 1), (None,), ("0",), (0, "1"), ((0,),), ([0],),
          (10 ** 60,), (0, 10 ** 99), (0, CODE))
LOTS_OF_4 = PLACES + ((), (4,), (0, 4), (0, 1, 2, 3, 4), (3, 23))
NO_CODES = (True, None, 0, 3, 10 ** 60, "", "code of length 4, dimension 2", (), (3, 12), (4, (3, 12)), [CODE], (CODE,),
            {4: (3, 12)})
NUMBERS = NO_INTEGERS + OUT_OF_RANGE + (25, 26)

LENGTH = (4, LENGTHS, InvalidNumber)
WORD = (6, WORDS_OF_4, InvalidWord)
WORDS = ((3, 12), TUPLES_OF_4, InvalidWord)
LONG_WORD = (6, WORDS_OF_24, InvalidWord)
ONE_CODE = (CODE, NO_CODES, InvalidCode)
LOT = ((0, 2), LOTS_OF_4, InvalidOperation)
NUMBER = (5, NUMBERS, InvalidNumber)
# a judged value is never refused
VALUE = (("parts", ()), (), None)

CALLS = {
    spans.is_word: (LENGTH, VALUE),
    spans.weight: (LONG_WORD,),
    spans.product: (LONG_WORD, LONG_WORD),
    spans.places_of: (LONG_WORD,),
    spans.word_of: (((0, 2), PLACES + ((24,), (0, 24), tuple(range(25))), InvalidOperation),),
    spans.basis_of: (LENGTH, WORDS),
    spans.free_places: (LENGTH, WORDS),
    spans.remainder_of: (LENGTH, WORDS, WORD),
    spans.span_of: (LENGTH, WORDS),
    spans.parts_or_check: (LENGTH, WORDS, WORD),
    spans.is_parts_or_check: (LENGTH, WORDS, WORD, VALUE),
    spans.checks_of: (LENGTH, WORDS),
    spans.sum_of: (LENGTH, WORDS, WORDS),
    spans.meet_of: (LENGTH, WORDS, WORDS),
    spans.binomial: (NUMBER, NUMBER),
    codes.Code: (LENGTH, WORDS),
    codes.dual: (ONE_CODE,),
    codes.even_part: (ONE_CODE,),
    codes.is_own: (ONE_CODE,),
    codes.has_word: (ONE_CODE, VALUE),
    codes.does_hold: (ONE_CODE, ONE_CODE),
    codes.own_or_shown: (ONE_CODE,),
    codes.is_own_or_shown: (ONE_CODE, VALUE),
    codes.words_of: (ONE_CODE,),
    codes.part_on: (ONE_CODE, LOT),
    codes.trace_on: (ONE_CODE, LOT),
}
JUDGED = (None, True, False, 0, -1, 1, 5000 * (1,), 10 ** 60, 10 ** 5000, -10 ** 5000, "", "own", "parts", (), ((),),
          [], [[]], {}, {"parts": ()}, ("parts",), ("check",), ("odd",), ("outside",), ("odd", None, None),
          ("outside", None), ("parts", None), ("check", None), (None,), (None, None), (None, None, None),
          (CODE,), CODE, ("check", CODE), ("odd", CODE, CODE), ((((((((1,),),),),),),),), [[[[[[[[1]]]]]]]])


class WrongInputs(unittest.TestCase):
    def refused(self, call, arguments, error, given):
        with self.assertRaises(error) as caught:
            call(*arguments)
        self.assertIs(type(caught.exception), error, (call.__name__, arguments))
        if error is InvalidNumber:
            self.assertIs(caught.exception.given, given)

    def test_the_right_ones_are_taken(self):
        for call, kinds in CALLS.items():
            arguments = [right for right, _, _ in kinds]
            self.assertEqual(call(*arguments), call(*arguments))

    def test_one_is_wrong(self):
        for call, kinds in CALLS.items():
            for at, (_, wrong, error) in enumerate(kinds):
                for value in wrong:
                    arguments = [right for right, _, _ in kinds]
                    arguments[at] = value
                    self.refused(call, arguments, error, value)

    def test_of_two_wrong_ones_the_first_one_is_told(self):
        for call, kinds in CALLS.items():
            for (at, (_, wrong, error)), (then, (_, others, _)) in itertools.combinations(enumerate(kinds), 2):
                for value, other in itertools.product(wrong, others):
                    arguments = [right for right, _, _ in kinds]
                    arguments[at], arguments[then] = value, other
                    self.refused(call, arguments, error, value)

    def test_a_wrong_one_beside_any_judged_value(self):
        for call, kinds in CALLS.items():
            if kinds[-1] is VALUE:
                for (at, (_, wrong, error)), judged in itertools.product(enumerate(kinds[:-1]), JUDGED):
                    for value in wrong[:6]:
                        arguments = [right for right, _, _ in kinds[:-1]] + [judged]
                        arguments[at] = value
                        self.refused(call, arguments, error, value)

    def test_judges_take_each_value(self):
        for value in JUDGED:
            self.assertIs(spans.is_word(4, value), type(value) is int and 0 <= value < 16)
            self.assertIs(codes.has_word(CODE, value), type(value) is int and value in (0, 3, 12, 15))
            for word in (3, 1):
                self.assertIs(spans.is_parts_or_check(4, (3, 12), word, value), False)
            for code in (CODE, Code(4, ()), Code(4, (1, 2))):
                self.assertIs(codes.is_own_or_shown(code, value), False)

    def test_words_of_each_length(self):
        for length in range(1, 25):
            most = 2 ** length - 1
            self.assertEqual(spans.basis_of(length, (most,)), (most,))
            self.assertEqual(spans.remainder_of(length, (), most), most)
            self.assertEqual(Code(length, (most,)).basis, (most,))
            for call, arguments in ((spans.basis_of, (length, (most + 1,))), (Code, (length, (0, most + 1))),
                                    (spans.remainder_of, (length, (most,), most + 1)),
                                    (spans.parts_or_check, (length, (most,), most + 1)),
                                    (spans.sum_of, (length, (most,), (most + 1,)))):
                self.refused(call, arguments, InvalidWord, None)

    def test_lots_of_each_length(self):
        for length in range(1, 25):
            code = Code(length, (1,))
            self.assertEqual(codes.trace_on(code, (length - 1,)).length, 1)
            for call, lot in itertools.product((codes.part_on, codes.trace_on), ((length,), (0, length), ())):
                self.refused(call, (code, lot), InvalidOperation, None)

    def test_codes_of_unlike_lengths(self):
        for one, other in itertools.permutations((Code(1, ()), Code(4, ()), Code(5, (3,)), Code(24, (3,))), 2):
            self.refused(codes.does_hold, (one, other), InvalidOperation, None)

    def test_more_words_than_are_listed_comes_last(self):
        units = tuple(2 ** place for place in range(24))
        for call, arguments in ((spans.span_of, (24, units)), (codes.words_of, (Code(24, units),))):
            with self.assertRaises(TooMany) as caught:
                call(*arguments)
            self.assertIs(type(caught.exception), TooMany)
            self.assertEqual(caught.exception.limit, 12)
        self.refused(spans.span_of, (25, units), InvalidNumber, 25)
        self.refused(spans.span_of, (23, units), InvalidWord, None)
        self.refused(spans.span_of, (24, units + (True,)), InvalidWord, None)

    def test_sixty_four_words_and_no_more(self):
        for call in (spans.basis_of, spans.free_places, spans.span_of, spans.checks_of, Code):
            call(4, (5,) * 64)
            self.refused(call, (4, (5,) * 65), InvalidWord, None)
        for call in (spans.sum_of, spans.meet_of):
            self.assertEqual(call(4, (5,) * 64, (5,) * 64), (5,))
            self.refused(call, (4, (5,) * 64, (5,) * 65), InvalidWord, None)
            self.refused(call, (4, (5,) * 65, (5,)), InvalidWord, None)


if __name__ == "__main__":
    unittest.main()
