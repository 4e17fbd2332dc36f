"""[0.1], [0.3], [0.4], [0.6]: invalid arguments, and judged values, from what falls apart to tables."""

import itertools
import unittest

from ownchecks.code.codes import Code
from ownchecks.errors import InvalidCode, InvalidNumber, InvalidOperation, UnknownName
from ownchecks.kinds import masses, tables
from ownchecks.same import fours, parts
from tests.kinds import EIGHT, LISTS, MIXED, PAIR, PLAIN, plain
from tests.refusals import CODE, JUDGED, LENGTHS, LOTS_OF_4, LOT, NO_CODES, NO_INTEGERS, OUT_OF_RANGE, VALUE, Refusals
from tests.test_interface import FOURS, MASSES, PARTS, TABLES
from tests.test_wrong_own_codes import NOT_OWN

INTEGERS = NO_INTEGERS + OUT_OF_RANGE
NO_TUPLES_OF_CODES = (True, False, None, 0, 4, 10 ** 60, "", "code", [], [CODE], CODE, {}, {0: CODE}, (None,), (True,),
                      (CODE, None), (CODE, 3), (CODE, "code"), ((CODE,),), (CODE, (CODE,)), ([CODE],),
                      (Code(4, (3,)),), (CODE, Code(4, ())), (Code(3, (7,)), CODE), ((4, (3, 12)),), (CODE.basis,),
                      (CODE,) * 40 + (None,))
NO_LISTS = NO_TUPLES_OF_CODES + ((), (CODE, PAIR), (PLAIN, CODE), (CODE,) * 9, (CODE,) * 60, (plain(16),), (plain(24),),
                                 (plain(14), plain(16)))
NO_LOTS = (True, None, 0, 10 ** 60, "", "01", [], [(0, 1)], {}, {0: (0, 1)}, CODE, (), (0, 1), (0,), ((),), ((0, 1), ()),
           ([0, 1],), ((0, 1), [2, 3]), ((0, 1), None), ((0, 1), "23"), ((0, 1), 2), ((0, 1), (1, 2)), ((0, 1), (0, 1)),
           ((0, 1), (3, 4)), ((1, 2), (3, 4)), ((1, 0), (2, 3)), ((0, 0),), ((0, 1), (2, 2)), ((0, 1), (2, -1)),
           ((-1, 0), (1, 2)), ((0, True), (2, 3)), ((False, 1),), ((0, None),), ((0, "1"),), ((0, (1,)),),
           ((0, 10 ** 60),), ((0, 10 ** 99), (1, 2)), ((0, CODE),), (CODE, CODE), ((0, 1, 2, 4),), ((0, 2), (1, 4)))
NO_KINDS = (True, False, None, 0, 2, 10 ** 60, "", "Pair", "PAIR", "pair ", "pai", "pairs", "nine", "two", "seven\n",
            (), ("pair",), ["pair"], {"pair": 2}, CODE, fours.KINDS, (("pair", 2),))

OWN = (CODE, NO_CODES + NOT_OWN, InvalidCode)
TOLD = ((0, 1), LOTS_OF_4 + ((0,), (0, 2), (1, 2), (0, 1, 2), (0, 1, 2, 3)), InvalidOperation)
SPLIT = ((0, 2), LOTS_OF_4 + ((0, 1, 2, 3),), InvalidOperation)
CODES = ((CODE, PAIR), NO_TUPLES_OF_CODES + ((),), InvalidCode)
ITS_LOTS = (((0, 2), (1, 3)), NO_LOTS, InvalidOperation)
ITS_CODES = ((PAIR, PAIR), NO_TUPLES_OF_CODES, InvalidCode)
KIND = ("pair", NO_KINDS, UnknownName)
MANY = (2, INTEGERS + (0, 1, 3, 4, 6, 7, 8, 22, 24, 26), InvalidNumber)
LIST = ((CODE,), NO_LISTS, InvalidOperation)
LIST_LENGTH = (4, LENGTHS + (1, 3, 5, 13, 15, 16, 17, 18, 24), InvalidNumber)
EVEN_LENGTH = (4, LENGTHS + (1, 3, 5, 7, 23), InvalidNumber)
FAR = (1, INTEGERS + (2, 3, 12), InvalidNumber)
STEPS = (60, INTEGERS + (61, 62, 600), InvalidNumber)
INDEX = (0, INTEGERS + (1, 2, 7, 8), InvalidNumber)

CALLS = {
    parts.gap_at: (OWN, LOT),
    parts.split_or_word: (OWN, SPLIT),
    parts.is_split_or_word: (OWN, SPLIT, VALUE),
    parts.ties: (OWN,),
    parts.unsplit_lots: (OWN,),
    parts.unsplit_parts: (OWN,),
    parts.is_unsplit: (OWN,),
    parts.side_by_side: (CODES,),
    parts.summed_at: (ITS_LOTS, ITS_CODES),
    fours.pairs_of: (OWN,),
    fours.fours_of: (OWN,),
    fours.told_lots: (OWN,),
    fours.bare_places: (OWN,),
    fours.fingerprint: (OWN,),
    fours.pattern: (KIND, MANY),
    fours.laying: (OWN, TOLD),
    fours.is_laying: (OWN, TOLD, VALUE),
    fours.are_alike_by_fours: (OWN, OWN),
    masses.is_list: (VALUE,),
    masses.mass_of: (OWN,),
    masses.unlike_or_alike: (LIST,),
    masses.is_unlike_or_alike: (LIST, VALUE),
    masses.masses_of: (LIST,),
    masses.complete_or_lacks: (LIST,),
    masses.is_complete_or_lacks: (LIST, VALUE),
    masses.weighed_counts: (LIST,),
    masses.kind_in: (LIST, OWN),
    masses.kinds_of: (LIST_LENGTH,),
    masses.is_kinds_of: (LIST_LENGTH, VALUE),
    tables.table_of: (LIST,),
    tables.distance_table: (LIST, FAR),
    tables.walk_table: (LIST, STEPS),
    tables.worths: (EVEN_LENGTH,),
    tables.worth_numbers: (LIST,),
    tables.rows_for: (LIST, FAR),
    tables.kinds_apart: (LIST, INDEX, INDEX),
    tables.nearest: (LIST, INDEX, INDEX),
    tables.is_nearest: (LIST, INDEX, INDEX, VALUE),
}
MORE_JUDGED = ((CODE,), (CODE, PAIR), (PLAIN, PLAIN), ("split", None), ("word", True), ("word", 0), ("word", 16),
               ("alike", 0, 0, (0, 1, 2, 3)), ("alike", 0, 1, (0, 1, 2, 3)), ("complete", (True,)), ("complete", ()),
               ("complete", (10 ** 5000,)), ("lacks", CODE), ("lacks", None), ("lacks", PAIR), (True, 0), (1, False),
               5000 * (CODE,), [CODE], {0: CODE}, ("unlike", CODE), (0, 2), (0, 1, 2), (CODE, None))


class WrongKinds(Refusals, unittest.TestCase):
    CALLS = CALLS

    def test_each_call_is_here(self):
        found = {call.__name__ for call in CALLS} | {"twins_of"}
        self.assertEqual(found, {*PARTS, *FOURS, *MASSES, *TABLES})

    def test_twins(self):
        # no code of the length 4 has a strip with twins
        code, lot = LISTS[12][2], tuple(range(12))
        self.assertEqual(len(fours.twins_of(code, lot)), 6)
        for wrong in LOTS_OF_4 + (lot[:11], lot[:4], list(lot), lot[::-1], (lot,), lot + (12,)):
            self.refused(fours.twins_of, (code, wrong), InvalidOperation, None)
            for no_code in NO_CODES + NOT_OWN:
                self.refused(fours.twins_of, (no_code, wrong), InvalidCode, None)

    def test_judges_take_each_value(self):
        for value in JUDGED + MORE_JUDGED:
            for lot in ((0, 1), (0, 2)):
                self.assertIs(parts.is_split_or_word(CODE, lot, value), False)
            self.assertIs(fours.is_laying(CODE, (0, 1), value), False)
            listed = type(value) is tuple and len(value) in (1, 2) and value in ((CODE,), (PLAIN, PLAIN))
            self.assertIs(masses.is_list(value), listed)
            self.assertIs(masses.is_kinds_of(4, value), type(value) is tuple and len(value) == 1 and value == (CODE,))
            self.assertIs(masses.is_kinds_of(6, value), False)
            for codes in ((CODE,), (CODE, CODE)):
                right = len(codes) == 2 and value == ("alike", 0, 1, (0, 1, 2, 3))
                self.assertIs(masses.is_unlike_or_alike(codes, value), right)
            self.assertIs(masses.is_complete_or_lacks((CODE,), value), False)
            self.assertIs(masses.is_complete_or_lacks((PLAIN,), value), False)
            self.assertIs(tables.is_nearest((CODE,), 0, 0, value), value == CODE)

    def test_codes_of_unlike_lengths(self):
        for lengths in itertools.permutations((2, 4, 16, 18, 24), 2):
            one, other = plain(lengths[0]), plain(lengths[1])
            self.refused(fours.are_alike_by_fours, (one, other), InvalidOperation, None)
            self.refused(fours.are_alike_by_fours, (one, Code(lengths[1], ())), InvalidCode, None)
        for length in (2, 6, 8, 14, 16, 24):
            self.refused(masses.kind_in, ((CODE,), plain(length)), InvalidOperation, None)
            self.refused(masses.kind_in, ((CODE,), Code(length, ())), InvalidCode, None)

    def test_too_many_comes_last(self):
        self.too_many(masses.mass_of, (plain(16),), 14)
        self.refused(masses.mass_of, (Code(16, ()),), InvalidCode, None)
        self.too_many(fours.are_alike_by_fours, (plain(18), plain(18)), 16)
        self.refused(fours.are_alike_by_fours, (plain(18), Code(18, ())), InvalidCode, None)
        self.refused(fours.are_alike_by_fours, (plain(18), plain(20)), InvalidOperation, None)
        self.too_many(parts.side_by_side, ((PAIR,) * 13,), 24)
        self.refused(parts.side_by_side, ((PAIR,) * 13 + (Code(2, ()),),), InvalidCode, None)
        lots = tuple((place, place + 13) for place in range(13))
        self.too_many(parts.summed_at, (lots, (PAIR,) * 13), 24)
        self.refused(parts.summed_at, (lots, (PAIR,) * 12 + (CODE,)), InvalidOperation, None)
        self.refused(parts.summed_at, (lots[:12] + ((12, 24),), (PAIR,) * 13), InvalidOperation, None)

    def test_codes_and_lots_that_do_not_go_together(self):
        for codes in ((), (PAIR,), (PAIR, CODE), (CODE, PAIR), (PAIR, PAIR, PAIR), (CODE,), (PLAIN, PLAIN)):
            self.refused(parts.summed_at, (((0, 2), (1, 3)), codes), InvalidOperation, None)
        for lots, code in ((((0, 1, 2, 3),), CODE), (((0, 1),), PAIR)):
            self.assertEqual(parts.summed_at(lots, (code,)), code)

    def test_each_length_of_own_codes(self):
        for length in range(2, 26, 2):
            code, lot = plain(length), tuple(range(length))
            self.assertEqual(parts.gap_at(code, lot), 0)
            self.assertEqual(len(fours.told_lots(code)), length // 2)
            for wrong in (lot + (length,), (length,), (0, length), (-1, 0), ()):
                for call in (parts.gap_at, parts.split_or_word, fours.laying, fours.twins_of):
                    self.refused(call, (code, wrong), InvalidOperation, None)
            self.refused(parts.split_or_word, (code, lot), InvalidOperation, None)
            self.assertEqual(len(tables.worths(length)), length // 2)
            self.assertIs(masses.is_list((code,)), length <= 14)
            if length > 14:
                for call in (masses.masses_of, masses.unlike_or_alike, tables.table_of, tables.worth_numbers):
                    self.refused(call, ((code,),), InvalidOperation, None)
                self.refused(masses.kinds_of, (length,), InvalidNumber, length)

    def test_refused_comes_last(self):
        for codes, reason in (((PLAIN, PLAIN), ("alike", 0, 1)), ((PLAIN,), ("lacks",)), ((EIGHT,), ("lacks",))):
            for call, right, wrong in ((tables.distance_table, 3, 4), (tables.walk_table, 60, 61), (tables.rows_for, 3, 4)):
                self.refused_for(call, (codes, right), reason)
                self.refused(call, (codes, wrong), InvalidNumber, wrong)
            for call, more in ((tables.kinds_apart, ()), (tables.nearest, ()), (tables.is_nearest, (PLAIN,))):
                self.refused_for(call, (codes, 0, 0) + more, reason)
                self.refused(call, (codes, len(codes), -1) + more, InvalidNumber, len(codes))
                self.refused(call, (codes, 0, -1) + more, InvalidNumber, -1)
            for call in (tables.table_of, tables.worth_numbers):
                self.refused_for(call, (codes,), reason)

    def test_indices_of_each_list(self):
        for length, codes in LISTS.items():
            for call, most in ((tables.distance_table, length // 2 - 1), (tables.rows_for, length // 2 - 1)):
                self.assertIs(type(call(codes, most)), tuple)
                self.refused(call, (codes, most + 1), InvalidNumber, most + 1)
                self.refused(call, (codes, -1), InvalidNumber, -1)
            most = len(codes) - 1
            self.assertEqual(tables.kinds_apart(codes, most, most), 0)
            self.refused(tables.kinds_apart, (codes, most + 1, 0), InvalidNumber, most + 1)
            self.refused(tables.kinds_apart, (codes, 0, most + 1), InvalidNumber, most + 1)
            self.refused(tables.nearest, (codes, 0, -1), InvalidNumber, -1)
        self.assertIs(masses.is_list((MIXED,) * 8), True)


if __name__ == "__main__":
    unittest.main()
