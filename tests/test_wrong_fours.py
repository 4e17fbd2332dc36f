"""[0.1], [0.3], [0.4], [0.6]: invalid arguments, and judged values, from two polynomials to codes beside."""

import itertools
import unittest

from ownchecks.code.codes import Code
from ownchecks.errors import InvalidCode, InvalidCounts, InvalidNumber, InvalidOperation, InvalidWord
from ownchecks.four import families, shades, shadows
from ownchecks.weigh import two
from tests.kinds import EIGHT, GOLAY, LISTS, LONG_STRIP, MIXED, PAIR, PLAIN, plain
from tests.refusals import CODE, JUDGED, LENGTH, LENGTHS, NO_CODES, NO_INTEGERS, OUT_OF_RANGE, VALUE, WORDS_OF_4
from tests.refusals import Refusals
from tests.test_interface import FAMILIES, SHADES, SHADOWS, TWO
from tests.test_wrong_own_codes import EVEN_LENGTH, NO_COUNTS, NOT_OWN, OWN, WORD

INTEGERS = NO_INTEGERS + OUT_OF_RANGE
NOT_FOUR = LENGTHS + (1, 2, 3, 4, 6, 7, 9, 10, 12, 14, 15, 17, 18, 20, 22, 23, 32, 48)
NO_PARTS = (True, False, None, 0, 1, 10 ** 60, "", "1", (), [], [1], {}, {0: 1}, CODE, (1, 2), (1, 0, 0), (True,), (False,),
            (None,), ("1",), ((1,),), ([1],), (CODE,), (10 ** 60,), (-10 ** 60,), (10 ** 99,), (1,) * 60)
OTHER_LENGTHS = (CODE, PAIR, MIXED) + LISTS[12] + (plain(18), plain(22))
NO_WORDS_OF_8 = WORDS_OF_4[:-4] + (256, 257, 511, 2 ** 24)

J = (0, INTEGERS + (1, 2, 24), InvalidNumber)
FOUR_LENGTH = (8, NOT_FOUR, InvalidNumber)
PARTS = ((-7,), NO_PARTS, InvalidOperation)
COUNTS = ((1, 0, 4, 0, 6, 0, 4, 0, 1), NO_COUNTS, InvalidCounts)
DISTANCE = (11, INTEGERS + (12, 13, 24), InvalidNumber)
BY_FOURS = (EIGHT, NO_CODES + NOT_OWN + OTHER_LENGTHS + (PLAIN, plain(16), plain(24)), InvalidCode)
WORD_OF_8 = (3, NO_WORDS_OF_8, InvalidWord)
EIGHTS_LENGTH = (16, LENGTHS, InvalidNumber)

CALLS = {
    two.two_row: (EVEN_LENGTH, J),
    two.four_row: (FOUR_LENGTH, J),
    two.row_by: (EVEN_LENGTH, PARTS),
    two.four_row_by: (FOUR_LENGTH, PARTS),
    two.parts_or_weight: (COUNTS,),
    two.four_parts_or_weight: (COUNTS,),
    two.parts_of: (OWN,),
    two.row_by_light: (EVEN_LENGTH, PARTS),
    two.four_row_by_light: (FOUR_LENGTH, PARTS),
    two.barest: (EVEN_LENGTH,),
    two.four_barest: (FOUR_LENGTH,),
    families.is_by_fours: (OWN,),
    families.fours_or_word: (OWN,),
    families.is_fours_or_word: (OWN, VALUE),
    families.half: (OWN,),
    families.count_by_fours: (LENGTH,),
    families.count_by_fours_at: (LENGTH, DISTANCE),
    families.eights: (EIGHTS_LENGTH,),
    families.fours_neighbour: (BY_FOURS, WORD_OF_8),
    families.neighbours_by_fours: (BY_FOURS,),
    families.are_one_family: (BY_FOURS, BY_FOURS),
    families.way_by_fours: (BY_FOURS, BY_FOURS),
    families.is_way_by_fours: (BY_FOURS, BY_FOURS, VALUE),
    shadows.shadow_or_word: (OWN, WORD),
    shadows.is_shadow_or_word: (OWN, WORD, VALUE),
    shadows.least_shadow: (OWN,),
    shadows.shadow: (OWN,),
    shadows.quarters: (OWN,),
    shadows.quarter_of: (OWN, WORD),
    shadows.quarter_products: (EVEN_LENGTH,),
    shades.shadow_counts: (OWN,),
    shades.counts_or_weight: (EVEN_LENGTH, PARTS),
    shades.is_counts_or_weight: (EVEN_LENGTH, PARTS, VALUE),
    shades.beside: (OWN,),
    shades.raised: (OWN,),
}
MORE_JUDGED = (("fours", None), ("word", True), ("word", 16), ("shadow", None), ("counts", ()), ("counts", None),
               ("weight", None), ("weight", True), ("weight", 10 ** 5000), (EIGHT, EIGHT), (EIGHT, None), (PLAIN,), [EIGHT],
               5000 * (EIGHT,), ("way", EIGHT), (CODE, CODE), ("counts", (0, 0, 0, 0)), {0: EIGHT}, (None, EIGHT))


class WrongFours(Refusals, unittest.TestCase):
    CALLS = CALLS

    def test_each_call_is_here(self):
        self.assertEqual({call.__name__ for call in CALLS}, {*TWO, *FAMILIES, *SHADOWS, *SHADES})

    def test_judges_take_each_value(self):
        other = families.fours_neighbour(EIGHT, 3)
        for value in JUDGED + MORE_JUDGED:
            for code in (CODE, EIGHT):
                self.assertIs(families.is_fours_or_word(code, value), False)
                self.assertIs(shadows.is_shadow_or_word(code, 0, value), False)
                self.assertIs(shadows.is_shadow_or_word(code, 5, value), False)
            self.assertIs(families.is_way_by_fours(EIGHT, other, value), False)
            self.assertIs(families.is_way_by_fours(EIGHT, EIGHT, value), False)
            self.assertIs(shades.is_counts_or_weight(4, (1,), value), False)
            self.assertIs(shades.is_counts_or_weight(4, (-1,), value), False)
        self.assertIs(families.is_way_by_fours(EIGHT, EIGHT, (EIGHT,)), True)
        self.assertIs(shades.is_counts_or_weight(4, (-1,), ("weight", 2)), True)

    def test_counts_of_other_lengths_come_behind_invalid_counts(self):
        for many in range(2, 26):
            row = (0,) * (many - 1)
            for call, step in ((two.parts_or_weight, 2), (two.four_parts_or_weight, 8)):
                if (many - 1) % step:
                    self.refused(call, (row + (1,),), InvalidOperation, None)
                for wrong in (True, None, 10 ** 60, "0"):
                    self.refused(call, (row + (wrong,),), InvalidCounts, None)

    def test_parts_for_each_length(self):
        for length in range(2, 26, 2):
            many = length // 8 + 1
            for call in (two.row_by, two.row_by_light, shades.counts_or_weight):
                self.assertIs(type(call(length, (1,) * many)), tuple)
                for wrong in (many - 1, many + 1):
                    self.refused(call, (length, (1,) * wrong), InvalidOperation, None)
                self.refused(call, (length + 1, (1,) * (many + 1)), InvalidNumber, length + 1)
            self.assertEqual(len(two.two_row(length, many - 1)), length + 1)
            self.refused(two.two_row, (length, many), InvalidNumber, many)
        for length in (8, 16, 24):
            many = length // 24 + 1
            for call in (two.four_row_by, two.four_row_by_light):
                self.assertIs(type(call(length, (1,) * many)), tuple)
                self.refused(call, (length, (1,) * (many + 1)), InvalidOperation, None)
                self.refused(call, (length + 2, (1,) * (many + 1)), InvalidNumber, length + 2)
            self.refused(two.four_row, (length, many), InvalidNumber, many)

    def test_codes_that_are_not_by_fours_are_invalid_ahead_of_unlike_lengths(self):
        for call, more in ((families.are_one_family, []), (families.way_by_fours, []), (families.is_way_by_fours, [None])):
            for one, other in itertools.permutations((EIGHT, LONG_STRIP, GOLAY), 2):
                self.refused(call, [one, other] + more, InvalidOperation, None)
            for one, other in ((EIGHT, plain(16)), (plain(16), EIGHT), (CODE, EIGHT), (EIGHT, Code(16, ())), (PLAIN, PLAIN)):
                self.refused(call, [one, other] + more, InvalidCode, None)
        self.refused(families.fours_neighbour, (PLAIN, -1), InvalidCode, None)
        self.refused(families.fours_neighbour, (EIGHT, 256), InvalidWord, None)
        for word in (0, 1, 7, 15, 255, 240):
            self.refused(families.fours_neighbour, (EIGHT, word), InvalidOperation, None)

    def test_too_many_comes_last(self):
        self.too_many(families.neighbours_by_fours, (GOLAY,), 16)
        self.refused(families.neighbours_by_fours, (plain(24),), InvalidCode, None)
        for length in (18, 20, 22, 24):
            self.too_many(shadows.shadow, (plain(length),), 16)
            self.refused(shadows.shadow, (Code(length, ()),), InvalidCode, None)
        self.assertEqual(len(shadows.shadow(plain(16))), 256)
        self.assertEqual(len(families.neighbours_by_fours(LONG_STRIP)), 127)

    def test_refused_comes_last(self):
        for code in (EIGHT, LONG_STRIP, GOLAY):
            for call in (shadows.quarters, shades.beside, shades.raised):
                self.refused_for(call, (code,), ("fours",))
            self.refused_for(shadows.quarter_of, (code, 0), ("fours",))
            self.refused(shadows.quarter_of, (code, 2 ** code.length), InvalidWord, None)
        for length in (2, 6, 10, 14, 18, 22):
            self.refused_for(shades.beside, (plain(length),), ("length",))
            self.refused(shades.beside, (Code(length, ()),), InvalidCode, None)
            self.refused_for(families.eights, (length,), ("length",))
            self.refused_for(families.eights, (length + 1,), ("length",))
        self.refused(families.eights, (26,), InvalidNumber, 26)

    def test_numbers_of_sixty_digits(self):
        most = 10 ** 60 - 1
        for part in (most, -most):
            self.assertEqual(two.row_by(2, (part,)), (part, 0, part))
            self.assertEqual(two.row_by_light(4, (part,)), (part, 0, 2 * part, 0, part))
            self.assertEqual(two.parts_or_weight((part, 0, part)), ("parts", (part,)))
            self.assertEqual(two.four_row_by(8, (part,))[4], 14 * part)
            self.assertEqual(shades.counts_or_weight(2, (part,)), ("counts", (0, 2 * most, 0)) if part > 0 else ("weight", 1))


if __name__ == "__main__":
    unittest.main()
