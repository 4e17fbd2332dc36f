"""[0.1], [0.3], [0.4], [0.6]: invalid arguments of spans and codes, one and two at once, and values that are judged."""

import itertools
import unittest

from ownchecks.base import spans
from ownchecks.code import codes
from ownchecks.code.codes import Code
from ownchecks.errors import InvalidNumber, InvalidOperation, InvalidWord, TooMany
from tests.refusals import CODE, JUDGED, LENGTH, LONG_WORD, LOT, NUMBER, ONE_CODE, PLACES, VALUE, WORD, WORDS, Refusals

CALLS = {
    spans.is_word: (LENGTH, VALUE),
    spans.weight: (LONG_WORD,),
    spans.product: (LONG_WORD, LONG_WORD),
    spans.places_of: (LONG_WORD,),
    spans.word_of: (((0, 2), PLACES + ((24,), (0, 24), tuple(range(25))), InvalidOperation),),
    spans.basis_of: (LENGTH, WORDS),
    spans.free_places: (LENGTH, WORDS),
    spans.remainder_of: (LENGTH, WORDS, WORD),
    spans.span_of: (LENGTH, WORDS),
    spans.parts_or_check: (LENGTH, WORDS, WORD),
    spans.is_parts_or_check: (LENGTH, WORDS, WORD, VALUE),
    spans.checks_of: (LENGTH, WORDS),
    spans.sum_of: (LENGTH, WORDS, WORDS),
    spans.meet_of: (LENGTH, WORDS, WORDS),
    spans.binomial: (NUMBER, NUMBER),
    codes.Code: (LENGTH, WORDS),
    codes.dual: (ONE_CODE,),
    codes.even_part: (ONE_CODE,),
    codes.is_own: (ONE_CODE,),
    codes.has_word: (ONE_CODE, VALUE),
    codes.does_hold: (ONE_CODE, ONE_CODE),
    codes.own_or_shown: (ONE_CODE,),
    codes.is_own_or_shown: (ONE_CODE, VALUE),
    codes.words_of: (ONE_CODE,),
    codes.part_on: (ONE_CODE, LOT),
    codes.trace_on: (ONE_CODE, LOT),
}


class WrongInputs(Refusals, unittest.TestCase):
    CALLS = CALLS

    def test_judges_take_each_value(self):
        for value in JUDGED:
            self.assertIs(spans.is_word(4, value), type(value) is int and 0 <= value < 16)
            self.assertIs(codes.has_word(CODE, value), type(value) is int and value in (0, 3, 12, 15))
            for word in (3, 1):
                self.assertIs(spans.is_parts_or_check(4, (3, 12), word, value), False)
            for code in (CODE, Code(4, ()), Code(4, (1, 2))):
                self.assertIs(codes.is_own_or_shown(code, value), False)

    def test_words_of_each_length(self):
        for length in range(1, 25):
            most = 2 ** length - 1
            self.assertEqual(spans.basis_of(length, (most,)), (most,))
            self.assertEqual(spans.remainder_of(length, (), most), most)
            self.assertEqual(Code(length, (most,)).basis, (most,))
            for call, arguments in ((spans.basis_of, (length, (most + 1,))), (Code, (length, (0, most + 1))),
                                    (spans.remainder_of, (length, (most,), most + 1)),
                                    (spans.parts_or_check, (length, (most,), most + 1)),
                                    (spans.sum_of, (length, (most,), (most + 1,)))):
                self.refused(call, arguments, InvalidWord, None)

    def test_lots_of_each_length(self):
        for length in range(1, 25):
            code = Code(length, (1,))
            self.assertEqual(codes.trace_on(code, (length - 1,)).length, 1)
            for call, lot in itertools.product((codes.part_on, codes.trace_on), ((length,), (0, length), ())):
                self.refused(call, (code, lot), InvalidOperation, None)

    def test_codes_of_unlike_lengths(self):
        for one, other in itertools.permutations((Code(1, ()), Code(4, ()), Code(5, (3,)), Code(24, (3,))), 2):
            self.refused(codes.does_hold, (one, other), InvalidOperation, None)

    def test_more_words_than_are_listed_comes_last(self):
        units = tuple(2 ** place for place in range(24))
        for call, arguments in ((spans.span_of, (24, units)), (codes.words_of, (Code(24, units),))):
            with self.assertRaises(TooMany) as caught:
                call(*arguments)
            self.assertIs(type(caught.exception), TooMany)
            self.assertEqual(caught.exception.limit, 12)
        self.refused(spans.span_of, (25, units), InvalidNumber, 25)
        self.refused(spans.span_of, (23, units), InvalidWord, None)
        self.refused(spans.span_of, (24, units + (True,)), InvalidWord, None)

    def test_sixty_four_words_and_no_more(self):
        for call in (spans.basis_of, spans.free_places, spans.span_of, spans.checks_of, Code):
            call(4, (5,) * 64)
            self.refused(call, (4, (5,) * 65), InvalidWord, None)
        for call in (spans.sum_of, spans.meet_of):
            self.assertEqual(call(4, (5,) * 64, (5,) * 64), (5,))
            self.refused(call, (4, (5,) * 64, (5,) * 65), InvalidWord, None)
            self.refused(call, (4, (5,) * 65, (5,)), InvalidWord, None)


if __name__ == "__main__":
    unittest.main()
