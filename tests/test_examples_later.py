"""The examples of the document, from glue on: what they show is what the program answers."""

import unittest

from ownchecks.code.codes import Code
from ownchecks.errors import InvalidOperation
from ownchecks.near.averages import clearing, count_with, does_clear, is_clearing, lighter, lighter_in_all, mean_counts
from ownchecks.near.averages import neighbour_sum
from ownchecks.near.within import around_or_odd, between_by, codes_around, codes_between, count_around, count_between
from ownchecks.near.within import first_around, is_around_or_odd, is_between
from ownchecks.same.glue import glue, glue_dimension, is_mate_or_odd, is_put_together, least_mate, parted_word
from ownchecks.same.glue import parts_span, put_together
from ownchecks.weigh.designs import is_spread_or_lots, is_sure, meetings, most_spread, spread_or_lots, times_at
from tests.kinds import EIGHT, PLAIN, SEVENS

HALVES = (tuple(range(7)), tuple(range(7, 14)))
PAIRED = ((0, 1), (2, 3))
TURNED = Code(8, (129, 66, 36, 24))


class GlueExamples(unittest.TestCase):
    def test_glue(self):
        self.assertEqual([glue(SEVENS, HALVES), glue_dimension(SEVENS, HALVES)], [(2838,), 1])
        lots = ((0, 1, 2), (3, 4, 5, 6, 7))
        self.assertEqual([parts_span(PLAIN, lots), glue(PLAIN, lots)], [(192, 48, 3), (12,)])

    def test_mates(self):
        self.assertEqual([parted_word(SEVENS, HALVES, 16383), least_mate(SEVENS, HALVES[0], 127)], [(13545, 2838), 2816])
        self.assertIs(is_mate_or_odd(SEVENS, HALVES[0], 127, ("mate", 16256)), True)
        self.assertIs(is_mate_or_odd(SEVENS, HALVES[0], 1, ("odd", 15)), True)

    def test_put_together(self):
        self.assertEqual([put_together(4, PAIRED, (3,), (12,))[0], put_together(4, PAIRED, (), (15,)),
                          put_together(4, PAIRED, (1,), (15,))[0]], ["own", ("few", 1), "odd"])
        self.assertIs(is_put_together(4, PAIRED, (1,), (15,), ("odd", 1, 15)), True)

    def test_refused(self):
        with self.assertRaises(InvalidOperation):
            least_mate(SEVENS, HALVES[0], 128)


class AveragesExamples(unittest.TestCase):
    def test_means(self):
        self.assertEqual([count_with(8, 15), count_with(8, 7), count_with(8, 255)], [15, 0, 135])
        self.assertEqual(mean_counts(8), ((1, 1), (0, 1), (28, 9), (0, 1), (70, 9), (0, 1), (28, 9), (0, 1), (1, 1)))

    def test_lighter(self):
        self.assertEqual([lighter(PLAIN, 4), lighter(EIGHT, 6), lighter_in_all(8, 6), neighbour_sum(PLAIN, 4)],
                         [4, 14, 98, 48])
        self.assertIs(does_clear(8, 4), False)
        self.assertIs(does_clear(16, 4), True)

    def test_clearing(self):
        self.assertIs(clearing(EIGHT, 4) == ("clear", (EIGHT,)), True)
        self.assertIs(is_clearing(PLAIN, 4, ("clear", (PLAIN, EIGHT))), True)
        self.assertIs(is_clearing(PLAIN, 4, ("stuck", (PLAIN,))), False)
        self.assertEqual(clearing(Code(2, (3,)), 2)[0], "clear")


class WithinExamples(unittest.TestCase):
    def test_around(self):
        self.assertEqual([first_around(Code(8, ())).basis, first_around(Code(6, (15,))).basis, first_around(Code(4, (1,)))],
                         [(192, 48, 12, 3), (48, 12, 3), None])
        self.assertEqual([count_around(Code(8, ())), count_around(Code(8, (15,))), count_around(Code(8, (7,)))], [135, 15, 0])
        self.assertEqual(around_or_odd(Code(2, (2,))), ("odd", 2, 2))
        self.assertIs(is_around_or_odd(Code(8, (15,)), ("own", EIGHT)), True)
        self.assertEqual([one.basis for one in codes_around(Code(4, ()))], [(9, 6), (10, 5), (12, 3)])

    def test_between(self):
        self.assertEqual(len(codes_between(PLAIN, EIGHT)), 2)
        self.assertIs(is_between(PLAIN, EIGHT, PLAIN), True)
        self.assertIs(between_by(PLAIN, EIGHT, PLAIN) == PLAIN, True)
        self.assertEqual([count_between(PLAIN, TURNED, steps) for steps in (0, 1, 2)] + [len(codes_between(PLAIN, TURNED))],
                         [1, 3, 1, 5])


class DesignsExamples(unittest.TestCase):
    def test_times(self):
        self.assertEqual([times_at(EIGHT, 4, (0, 1, 2)), times_at(PLAIN, 2, (0, 1)), times_at(PLAIN, 4, ()),
                          spread_or_lots(EIGHT, 4, 3), spread_or_lots(EIGHT, 4, 4)[0]], [1, 1, 6, ("spread", 1), "unlike"])

    def test_spread(self):
        self.assertIs(is_spread_or_lots(PLAIN, 2, 2, ("unlike", (0, 1), (0, 2))), True)
        self.assertIs(is_spread_or_lots(PLAIN, 2, 1, ("spread", 1)), True)
        self.assertEqual([spread_or_lots(EIGHT, 2, 5), most_spread(EIGHT, 4), most_spread(PLAIN, 2)], [("spread", 0), 3, 1])

    def test_sure(self):
        self.assertIs(is_sure(EIGHT, 3), True)
        self.assertIs(is_sure(EIGHT, 4), False)
        self.assertIs(is_sure(PLAIN, 1), False)
        self.assertEqual(meetings(EIGHT, 4, 15), (1, 0, 12, 0, 1, 0, 0, 0, 0))

    def test_refused(self):
        with self.assertRaises(InvalidOperation):
            times_at(EIGHT, 4, (1, 0))


if __name__ == "__main__":
    unittest.main()
