"""[0.1], [0.3], [0.4], [0.6]: invalid arguments, and judged values, from glue to evenly spread words."""

import itertools
import unittest

from ownchecks.code.codes import Code
from ownchecks.errors import InvalidCode, InvalidNumber, InvalidOperation, InvalidWord, TooMany
from ownchecks.near import averages, within
from ownchecks.same import glue
from ownchecks.weigh import designs
from tests.kinds import EIGHT, GOLAY, MIXED, PAIR, PLAIN, plain
from tests.refusals import CODE, JUDGED, LOTS_OF_4, NO_CODES, NO_INTEGERS, OUT_OF_RANGE, TUPLES_OF_4, VALUE
from tests.refusals import Refusals
from tests.test_interface import AVERAGES, DESIGNS, GLUE, WITHIN
from tests.test_wrong_kinds import NO_LOTS, SPLIT
from tests.test_wrong_own_codes import EVEN_LENGTH, OWN, WEIGHT, WORD

INTEGERS = NO_INTEGERS + OUT_OF_RANGE
# lots that have not each of the four places just once, and a single lot
NO_LOTS_OF_4 = NO_LOTS + (((0, 1, 2, 3),), ((0,), (1,)), ((0, 1), (2,)), ((0, 1, 2), (3, 4)), ((0, 1), (2, 3), (4,)),
                          ((0, 1), (2, 3), ()), ((0, 1), (1, 2, 3)), ((0, 1), (3, 2)), tuple((at,) for at in range(25)),
                          [(0, 1), (2, 3)], ((0, 1), [2, 3]), ((0, 1), (2, True)))
NOT_WITHIN = TUPLES_OF_4 + ((5,), (3, 6), (15,), (0, 14), (3, 12, 9))
NO_INNER = NO_CODES + (Code(3, (7,)), Code(1, ()), Code(23, (1,)))
NO_SMALL_LOTS = tuple(lot for lot in LOTS_OF_4 if lot != ()) + (tuple(range(6)), tuple(range(24)), (0, 2, 2), (3, 4))

ITS_LOTS = (((0, 1), (2, 3)), NO_LOTS_OF_4, InvalidOperation)
# a word within the lot (0, 2) of SPLIT
WITHIN_WORD = (5, WORD[1], InvalidWord)
WITHIN_LOTS = ((3, 8, 0), NOT_WITHIN, InvalidOperation)
GLUED = ((15, 9), TUPLES_OF_4, InvalidOperation)
BOUND = (4, INTEGERS + (0, 1, 3, 5, 6, 8, 24), InvalidNumber)
INNER = (Code(4, (3,)), NO_INNER, InvalidCode)
STEPS = (0, INTEGERS + (1, 2, 24), InvalidNumber)
SMALL_LOT = ((0, 2), NO_SMALL_LOTS, InvalidOperation)
T = (2, INTEGERS + (5, 6, 24), InvalidNumber)
CODE_WORD = (15, WORD[1], InvalidWord)

CALLS = {
    glue.parts_span: (OWN, ITS_LOTS),
    glue.glue: (OWN, ITS_LOTS),
    glue.glue_dimension: (OWN, ITS_LOTS),
    glue.parted_word: (OWN, ITS_LOTS, CODE_WORD),
    glue.mate_or_odd: (OWN, SPLIT, WITHIN_WORD),
    glue.is_mate_or_odd: (OWN, SPLIT, WITHIN_WORD, VALUE),
    glue.least_mate: (OWN, SPLIT, WITHIN_WORD),
    glue.put_together: (EVEN_LENGTH, ITS_LOTS, WITHIN_LOTS, GLUED),
    glue.is_put_together: (EVEN_LENGTH, ITS_LOTS, WITHIN_LOTS, GLUED, VALUE),
    averages.count_with: (EVEN_LENGTH, WORD),
    averages.mean_counts: (EVEN_LENGTH,),
    averages.lighter: (OWN, BOUND),
    averages.lighter_in_all: (EVEN_LENGTH, BOUND),
    averages.does_clear: (EVEN_LENGTH, BOUND),
    averages.neighbour_sum: (OWN, BOUND),
    averages.clearing: (OWN, BOUND),
    averages.is_clearing: (OWN, BOUND, VALUE),
    within.around_or_odd: (INNER,),
    within.is_around_or_odd: (INNER, VALUE),
    within.first_around: (INNER,),
    within.count_around: (INNER,),
    within.codes_around: (INNER,),
    within.is_between: (OWN, OWN, VALUE),
    within.between_by: (OWN, OWN, (CODE, NO_INNER, InvalidCode)),
    within.count_between: (OWN, OWN, STEPS),
    within.codes_between: (OWN, OWN),
    designs.times_at: (OWN, WEIGHT, SMALL_LOT),
    designs.spread_or_lots: (OWN, WEIGHT, T),
    designs.is_spread_or_lots: (OWN, WEIGHT, T, VALUE),
    designs.most_spread: (OWN, WEIGHT),
    designs.is_sure: (OWN, T),
    designs.meetings: (OWN, WEIGHT, WORD),
}
MORE_JUDGED = (("mate", None), ("mate", True), ("mate", 16), ("odd", True, True), ("odd", 3, None), ("own", CODE),
               ("own", None), ("own", Code(4, (3,))), ("few", None), ("few", CODE), ("clear", None), ("clear", ()),
               ("clear", (None,)), ("clear", ((CODE,),)), ("stuck", CODE), ("stuck", [CODE]), ("spread", None),
               ("spread", 10 ** 5000), ("unlike", None, None), ("unlike", (0, 1), None), ("unlike", CODE, CODE),
               ("unlike", ((0,),), ((1,),)), 5000 * (CODE,), ("clear", 3000 * (CODE,)), (CODE, "own"), [CODE], {0: CODE})


class WrongGlue(Refusals, unittest.TestCase):
    CALLS = CALLS

    def test_each_call_is_here(self):
        self.assertEqual({call.__name__ for call in CALLS}, {*GLUE, *AVERAGES, *WITHIN, *DESIGNS})

    def test_judges_take_each_value(self):
        odd = Code(4, (1,))
        for value in JUDGED + MORE_JUDGED:
            self.assertIs(glue.is_mate_or_odd(CODE, (0, 1), 2, value), False)
            self.assertIs(glue.is_put_together(4, ((0, 1), (2, 3)), (3,), (5,), value), False)
            self.assertIs(averages.is_clearing(CODE, 4, value), False)
            is_own_around = type(value) is tuple and list(value) == ["own", CODE]
            self.assertIs(within.is_around_or_odd(Code(4, (3,)), value), is_own_around)
            self.assertIs(within.is_around_or_odd(odd, value), False)
            self.assertIs(within.is_between(CODE, CODE, value), isinstance(value, Code) and value == CODE)
            self.assertIs(designs.is_spread_or_lots(CODE, 2, 1, value), False)
            self.assertIs(designs.is_spread_or_lots(CODE, 2, 2, value), False)
        self.assertIs(averages.is_clearing(CODE, 4, ("stuck", (CODE,))), True)
        self.assertIs(designs.is_spread_or_lots(CODE, 2, 1, ("spread", 1)), True)
        self.assertIs(designs.is_spread_or_lots(CODE, 2, 1, ("spread", True)), False)

    def test_codes_of_unlike_lengths(self):
        for lengths in itertools.permutations((2, 4, 16, 18, 24), 2):
            one, other = [plain(length) for length in lengths]
            for value in (None, one, other):
                self.refused(within.is_between, (one, other, value), InvalidOperation, None)
            self.refused(within.codes_between, (one, other), InvalidOperation, None)
            # what is invalid in itself goes ahead of unlike lengths, and these go ahead of steps
            for inner in (None, Code(3, (7,)), ()):
                self.refused(within.between_by, (one, other, inner), InvalidCode, None)
            for inner in (one, other, Code(2, ())):
                self.refused(within.between_by, (one, other, inner), InvalidOperation, None)
            for steps in (None, -1, True, 0, 24):
                self.refused(within.count_between, (one, other, steps), InvalidOperation, None)
            for call, more in ((within.is_between, (None,)), (within.codes_between, ()), (within.between_by, (one,)),
                               (within.count_between, (0,))):
                self.refused(call, (one, Code(lengths[1], ())) + more, InvalidCode, None)
                self.refused(call, (Code(lengths[0], ()), other) + more, InvalidCode, None)

    def test_inner_codes(self):
        for inner in (PAIR, plain(6), Code(4, ()), Code(4, (3,)), Code(4, (5,)), Code(4, (1,)), Code(4, (3, 5))):
            self.refused(within.between_by, (CODE, CODE, inner), InvalidOperation, None)
        for inner in (Code(8, ()), Code(8, (51, 15)), Code(8, (15, 51, 195, 5)), EIGHT, Code(8, (195, 51, 15, 1))):
            self.refused(within.between_by, (PLAIN, EIGHT, inner), InvalidOperation, None)

    def test_lots_and_words(self):
        for word in (1, 7, 14, 9):
            self.refused(glue.parted_word, (CODE, ((0, 1), (2, 3)), word), InvalidOperation, None)
        self.refused(glue.parted_word, (CODE, ((0, 1), (2, 3)), 16), InvalidWord, None)
        for call, more in ((glue.mate_or_odd, ()), (glue.least_mate, ()), (glue.is_mate_or_odd, (None,))):
            # the lot of all places is refused ahead of the word, and a word beside the lot behind invalid ones
            self.refused(call, (CODE, (0, 1, 2, 3), 16) + more, InvalidOperation, None)
            self.refused(call, (CODE, (0, 1, 2, 3), 3) + more, InvalidOperation, None)
            for word in (4, 5, 12, 15):
                self.refused(call, (CODE, (0, 1), word) + more, InvalidOperation, None)
            self.refused(call, (CODE, (0, 1), 19) + more, InvalidWord, None)
        for lots in (((0, 1),), ((0,), (1,), (2,)), ((0, 1), (2, 3))):
            for length in (2, 6):
                self.refused(glue.put_together, (length, lots, (), ()), InvalidOperation, None)
                self.refused(glue.parts_span, (plain(length), lots), InvalidOperation, None)
        self.assertEqual(glue.put_together(2, ((0,), (1,)), (), (3,)), ("own", PAIR))

    def test_bounds_of_each_length(self):
        for length in range(2, 26, 2):
            for bound in range(-1, length + 4):
                calls = ((averages.lighter, (plain(length), bound)), (averages.lighter_in_all, (length, bound)),
                         (averages.does_clear, (length, bound)), (averages.neighbour_sum, (plain(length), bound)))
                for call, arguments in calls:
                    if 2 <= bound <= length and bound % 2 == 0:
                        self.assertEqual(call(*arguments), call(*arguments))
                    else:
                        self.refused(call, arguments, InvalidNumber, bound)

    def test_too_many_comes_last(self):
        long = plain(18)
        self.refused(averages.clearing, (Code(18, ()), 3), InvalidCode, None)
        self.refused(averages.clearing, (long, 3), InvalidNumber, 3)
        self.too_many(averages.clearing, (long, 2), 16)
        for value in (None, ("clear", (long,)), True):
            self.refused(averages.is_clearing, (long, 20, value), InvalidNumber, 20)
            self.too_many(averages.is_clearing, (long, 18, value), 16)
        self.too_many(within.codes_around, (Code(10, ()),), 135)
        self.too_many(within.codes_around, (Code(24, ()),), 135)
        self.assertEqual(within.codes_around(Code(24, (1,))), ())
        with self.assertRaises(TooMany):
            within.codes_between(plain(24), GOLAY)

    def test_places_together(self):
        for length in range(2, 26, 2):
            most = min(length, 5)
            for t in range(-1, 8):
                for call, more in ((designs.spread_or_lots, (0,)), (designs.is_sure, ())):
                    arguments = (plain(length),) + more + (t,)
                    if 0 <= t <= most:
                        call(*arguments)
                    else:
                        self.refused(call, arguments, InvalidNumber, t)
            self.assertEqual(designs.times_at(plain(length), length, tuple(range(most))), 1)
            self.refused(designs.times_at, (plain(length), length, tuple(range(most + 1))), InvalidOperation, None)
        self.refused(designs.times_at, (MIXED, 11, (1, 0)), InvalidNumber, 11)
        self.refused(designs.spread_or_lots, (MIXED, 11, 6), InvalidNumber, 11)
        self.refused(designs.meetings, (MIXED, -1, 1024), InvalidNumber, -1)


if __name__ == "__main__":
    unittest.main()
