"""[0.1], [0.3], [0.4], [0.6]: invalid arguments, and judged values, from counts to exchanges."""

import itertools
import unittest

from ownchecks.code.codes import Code
from ownchecks.errors import InvalidCode, InvalidCounts, InvalidNumber, InvalidOperation, InvalidWord
from ownchecks.near import every, neighbours
from ownchecks.same import exchanges
from ownchecks.weigh import counts
from tests.kinds import plain
from tests.refusals import CODE, JUDGED, LENGTH, LENGTHS, NO_CODES, NO_INTEGERS, ONE_CODE, OUT_OF_RANGE, VALUE
from tests.refusals import WORDS_OF_4, Refusals
from tests.test_interface import COUNTS as TOLD_COUNTS, EVERY, EXCHANGES, NEIGHBOURS

INTEGERS = NO_INTEGERS + OUT_OF_RANGE
NOT_OWN = (Code(4, (3,)), Code(4, ()), Code(4, (1, 2)), Code(4, (3, 5)), Code(4, (3, 12, 5)), Code(3, (7,)),
           Code(1, ()), Code(8, (3, 12, 48)), Code(24, ()), Code(24, (2 ** 24 - 1,)))
NO_COUNTS = (True, False, None, 0, 3, 10 ** 60, "", "10", (), (1,), [], [1, 0], {}, {1: 0, 0: 1}, CODE, (1,) * 26,
             (0,) * 60, (True, 1), (1, False), (1, None), ("1", 0), (1, "0"), ((1, 0),), (1, (0,)), (1, [0]),
             (1, 0, CODE), (1, 10 ** 60), (10 ** 60, 0), (-10 ** 60, 0), (1, 0, -10 ** 99), (0,) * 24 + (True,))
NO_EXCHANGES = (True, None, 0, 10 ** 60, "", "01", [], [0], [1, 0, 2, 3], {}, {0: 0}, CODE, (1,), (-1,), (0, 0),
                (1, 1, 2, 3), (0, 2), (0, 1, 2, 4), (1, 2, 3, 4), (-1, 0, 1, 2), (0, 1, 2, -1), (True,), (False,),
                (0, True), (True, 0, 2, 3), (None, 0), ("0",), (1, "0", 2, 3), ((1, 0),), (1, [0], 2, 3),
                (1, (0,), 2, 3), (0, 10 ** 60), (1, 0, 2, 10 ** 99), (1, 0, 2, CODE), (0,) * 4, (3,) * 4, (),
                tuple(range(25)), tuple(range(1, 25)), (0,) * 30)
OF_OTHER_LENGTHS = ((0,), (1, 0), (0, 1, 2), (1, 0, 2, 3, 4), tuple(range(24)))
NO_ADDRESSES = (True, None, 0, 10 ** 60, "", "0", [], [0], {}, {0: 0}, CODE, (-1,), (3,), (0, 5), (1, -1), (0, 0, 9),
                (True,), (False,), (0, True), (None,), ("0",), ((0,),), ([0],), (0, 10 ** 60), (0, -10 ** 99),
                (0, CODE), (0,) * 12, (0,) * 10 + (2049,), (0,) * 60)

OWN = (CODE, NO_CODES + NOT_OWN, InvalidCode)
COUNTS = ((1, 0, 1), NO_COUNTS, InvalidCounts)
WORD = (5, WORDS_OF_4, InvalidWord)
WEIGHT = (2, INTEGERS + (5, 6, 24, 25), InvalidNumber)
MANY = (2, INTEGERS + (3, 4, 24), InvalidNumber)
EVEN_LENGTH = (4, LENGTHS + (1, 3, 5, 7, 23), InvalidNumber)
STEPS = (1, INTEGERS + (2, 3, 12), InvalidNumber)
DIGIT = (4, INTEGERS + (5, 6, 4096), InvalidNumber)
BY_NUMBER = (2, INTEGERS + (3, 4), InvalidNumber)
FIRST_PLACE = (1, INTEGERS + (4, 5, 24), InvalidNumber)
PLACE = (3, INTEGERS + (4, 5, 24), InvalidNumber)
ADDRESS = ((2, 4), NO_ADDRESSES, InvalidOperation)
EXCHANGE = ((1, 0, 3, 2), NO_EXCHANGES, InvalidOperation)
ITS_EXCHANGE = ((1, 0, 3, 2), NO_EXCHANGES + OF_OTHER_LENGTHS, InvalidOperation)


def first_of(length):
    return next(every.codes(length))


CALLS = {
    counts.signs: (LENGTH, WEIGHT, WEIGHT),
    counts.counts_of: (ONE_CODE,),
    counts.dual_counts: (ONE_CODE,),
    counts.coset_counts: (ONE_CODE, WORD),
    counts.transformed: (COUNTS,),
    counts.least_weight: (ONE_CODE,),
    counts.words_of_weight: (ONE_CODE, WEIGHT),
    counts.zero_lots: (COUNTS, MANY),
    counts.dual_or_weight: (COUNTS,),
    neighbours.neighbour: (OWN, WORD),
    neighbours.neighbours: (OWN,),
    neighbours.distance: (OWN, OWN),
    neighbours.shared: (OWN, OWN),
    neighbours.steps_from: (OWN, OWN),
    neighbours.nearer: (OWN, OWN),
    neighbours.way: (OWN, OWN),
    neighbours.is_way: (OWN, OWN, VALUE),
    neighbours.ways_count: (EVEN_LENGTH, STEPS),
    every.child: (OWN, FIRST_PLACE, PLACE),
    every.parent: (OWN, DIGIT),
    every.parents: (OWN,),
    every.digit_of: (OWN,),
    every.address_of: (OWN,),
    every.code_at: (ADDRESS,),
    every.number_of: (OWN,),
    every.code_by: (EVEN_LENGTH, BY_NUMBER),
    every.count_of: (EVEN_LENGTH,),
    every.count_at: (EVEN_LENGTH, STEPS),
    first_of: (EVEN_LENGTH,),
    exchanges.is_exchange: (LENGTH, VALUE),
    exchanges.backward: (EXCHANGE,),
    exchanges.one_behind: (EXCHANGE, EXCHANGE),
    exchanges.led_word: (EXCHANGE, WORD),
    exchanges.exchanged: (OWN, ITS_EXCHANGE),
    exchanges.does_keep: (OWN, ITS_EXCHANGE),
    exchanges.exchange_or_none: (OWN, OWN),
    exchanges.is_exchange_or_none: (OWN, OWN, VALUE),
    exchanges.tower_of: (OWN,),
    exchanges.order_of: (OWN,),
    exchanges.alike_count: (OWN,),
    exchanges.climb_of: (OWN,),
    exchanges.is_climb: (OWN, VALUE),
    exchanges.orbits_of: (OWN,),
    exchanges.through: (OWN, PLACE),
    exchanges.through_two: (OWN, FIRST_PLACE, PLACE),
}
OF_TWO_CODES = [call for call, kinds in CALLS.items() if kinds[:2] == (OWN, OWN)]
MORE_JUDGED = ((CODE, CODE), (CODE, None), (Code(4, (3,)),), (CODE.basis,), (0, 1), (1, 0, 2), (0, 1, 2, 2),
               (0, 1, 2, True), (0, 1, 2, 10 ** 5000), (None,) * 4, ((),) * 4, (((0, 1, 2, 3),),) * 4, (1, 0, 3, [2]),
               [1, 0, 3, 2], ("way", CODE), 5000 * ((0, 1, 2, 3),), 5000 * (CODE,))


class WrongOwnCodes(Refusals, unittest.TestCase):
    CALLS = CALLS

    def test_each_call_is_here(self):
        found = {call.__name__ for call in CALLS if call is not first_of} | {"codes"}
        self.assertEqual(found, {*TOLD_COUNTS, *NEIGHBOURS, *EVERY, *EXCHANGES})

    def test_judges_take_each_value(self):
        for value in JUDGED + MORE_JUDGED:
            for other in (CODE, Code(4, (5, 10))):
                stays = other == CODE and type(value) is tuple and list(value) == [CODE]
                self.assertIs(neighbours.is_way(CODE, other, value), stays)
                self.assertIs(exchanges.is_exchange_or_none(CODE, other, value), False)
            self.assertIs(exchanges.is_climb(CODE, value), False)
            self.assertIs(exchanges.is_exchange(4, value), False)
        self.assertIs(neighbours.is_way(CODE, CODE, (CODE,)), True)
        self.assertIs(exchanges.is_exchange(2, (0, 1)), True)
        self.assertIs(exchanges.is_exchange(1, (False,)), False)

    def test_codes_of_unlike_lengths(self):
        for call, lengths in itertools.product(OF_TWO_CODES, itertools.permutations((2, 4, 16, 18, 24), 2)):
            codes = [plain(length) for length in lengths]
            more = [None] if CALLS[call][-1] is VALUE else []
            self.refused(call, codes + more, InvalidOperation, None)
            self.refused(call, [codes[0], Code(lengths[1], ())] + more, InvalidCode, None)
            self.refused(call, [Code(lengths[0], ()), codes[1]] + more, InvalidCode, None)
        self.assertEqual(len(OF_TWO_CODES), 8)

    def test_too_many_comes_last(self):
        long = plain(18)
        short = (neighbours.neighbours, exchanges.tower_of, exchanges.order_of, exchanges.alike_count,
                 exchanges.climb_of, exchanges.orbits_of)
        for call in short:
            self.refused(call, (Code(18, ()),), InvalidCode, None)
            self.too_many(call, (long,), 16)
        for call in (neighbours.nearer, exchanges.exchange_or_none):
            self.too_many(call, (long, long), 16)
            self.refused(call, (long, Code(18, ())), InvalidCode, None)
        for value in (None, True, (), tuple(range(18)), "way"):
            self.too_many(exchanges.is_exchange_or_none, (long, long, value), 16)
            self.too_many(exchanges.is_climb, (long, value), 16)
        self.refused(every.parents, (Code(16, ()),), InvalidCode, None)
        self.too_many(every.parents, (plain(16),), 14)
        self.refused(every.parent, (plain(24), 4097), InvalidNumber, 4097)
        self.too_many(every.parent, (plain(24), 4096), 24)
        self.refused(first_of, (13,), InvalidNumber, 13)
        self.too_many(first_of, (12,), 10)
        many = Code(13, tuple(2 ** place for place in range(13)))
        self.refused(counts.words_of_weight, (many, 14), InvalidNumber, 14)
        self.too_many(counts.words_of_weight, (many, 13), 4096)

    def test_what_is_not_allowed_comes_behind_what_is_invalid(self):
        pair = Code(2, (3,))
        self.refused(every.child, (pair, 2, 0), InvalidNumber, 2)
        self.refused(every.child, (pair, 1, -3), InvalidNumber, -3)
        for places in ((0, 1), (1, 0), (1, 1)):
            self.refused(every.child, (pair,) + places, InvalidOperation, None)
        for places in ((1, 0), (3, 2), (2, 2)):
            self.refused(every.child, (CODE,) + places, InvalidOperation, None)
        for word in (0, 1, 3, 7, 12, 15):
            self.refused(neighbours.neighbour, (CODE, word), InvalidOperation, None)
        self.refused(neighbours.neighbour, (CODE, 19), InvalidWord, None)
        self.refused(every.digit_of, (pair,), InvalidOperation, None)
        self.refused(every.digit_of, (Code(2, (1,)),), InvalidCode, None)
        self.refused(exchanges.through_two, (CODE, 2, 2), InvalidOperation, None)
        self.refused(exchanges.through_two, (CODE, 4, 4), InvalidNumber, 4)
        for one, other in itertools.permutations(OF_OTHER_LENGTHS, 2):
            self.refused(exchanges.one_behind, (one, other), InvalidOperation, None)
        self.refused(exchanges.led_word, ((1, 0), 4), InvalidWord, None)

    def test_numbers_of_sixty_digits(self):
        most = 10 ** 60 - 1
        for row in ((most, 0), (0, -most), (most,) * 25):
            self.assertEqual(len(counts.transformed(row)), len(row))
            self.assertEqual(counts.zero_lots(row, 0), sum(row))
            self.assertEqual(counts.dual_or_weight(row), ("sum",))
        for row in ((most + 1, 0), (0, -most - 1), (most,) * 24 + (most + 1,)):
            for call, more in ((counts.transformed, ()), (counts.zero_lots, (0,)), (counts.dual_or_weight, ())):
                self.refused(call, (row,) + more, InvalidCounts, None)

    def test_counts_of_each_number_of_members(self):
        for many in range(2, 26):
            self.assertEqual(len(counts.transformed((1,) * many)), many)
        for many in (0, 1, 26, 27):
            self.refused(counts.transformed, ((1,) * many,), InvalidCounts, None)

    def test_numbers_of_each_length(self):
        for length in range(2, 26, 2):
            most = length // 2 - 1
            for call in (neighbours.ways_count, every.count_at):
                self.assertIs(type(call(length, most)), int)
                self.refused(call, (length, most + 1), InvalidNumber, most + 1)
                self.refused(call, (length + 1, most), InvalidNumber, length + 1)
        for length in range(1, 25):
            self.assertEqual(counts.signs(length, length, 0), 1)
            self.refused(counts.signs, (length, length + 1, 0), InvalidNumber, length + 1)
            self.refused(counts.signs, (length, 0, length + 1), InvalidNumber, length + 1)


if __name__ == "__main__":
    unittest.main()
