"""The examples of the document, from glue to claims: what they show is what the program answers."""

import unittest

from ownchecks.bench.bench import Bench
from ownchecks.code.codes import Code
from ownchecks.code.cosets import coset_of, farthest, is_leader, leader, leaders, least_weights, nearest, parent_counts
from ownchecks.code.cosets import products_of, radius, signed_counts, word_with
from ownchecks.errors import InvalidClaim, InvalidOperation, ParseError, UnknownName
from ownchecks.judge.claims import answered, is_claim, opposite, takes
from ownchecks.near.averages import clearing, count_with, does_clear, is_clearing, lighter, lighter_in_all, mean_counts
from ownchecks.near.averages import neighbour_sum
from ownchecks.near.within import around_or_odd, between_by, codes_around, codes_between, count_around, count_between
from ownchecks.near.within import first_around, is_around_or_odd, is_between
from ownchecks.same.exchanges import exchanged
from ownchecks.same.glue import glue, glue_dimension, is_mate_or_odd, is_put_together, least_mate, parted_word
from ownchecks.same.glue import parts_span, put_together
from ownchecks.text.texts import code_text, counts_text, exchange_text, read_code, read_counts, read_exchange, read_words
from ownchecks.text.texts import words_text
from ownchecks.weigh.designs import is_spread_or_lots, is_sure, meetings, most_spread, spread_or_lots, times_at
from tests.kinds import EIGHT, PLAIN, SEVENS

HALVES = (tuple(range(7)), tuple(range(7, 14)))
PAIRED = ((0, 1), (2, 3))
TURNED = Code(8, (129, 66, 36, 24))


class GlueExamples(unittest.TestCase):
    def test_glue(self):
        self.assertEqual([glue(SEVENS, HALVES), glue_dimension(SEVENS, HALVES)], [(2838,), 1])
        lots = ((0, 1, 2), (3, 4, 5, 6, 7))
        self.assertEqual([parts_span(PLAIN, lots), glue(PLAIN, lots)], [(192, 48, 3), (12,)])

    def test_mates(self):
        self.assertEqual([parted_word(SEVENS, HALVES, 16383), least_mate(SEVENS, HALVES[0], 127)], [(13545, 2838), 2816])
        self.assertIs(is_mate_or_odd(SEVENS, HALVES[0], 127, ("mate", 16256)), True)
        self.assertIs(is_mate_or_odd(SEVENS, HALVES[0], 1, ("odd", 15)), True)

    def test_put_together(self):
        self.assertEqual([put_together(4, PAIRED, (3,), (12,))[0], put_together(4, PAIRED, (), (15,)),
                          put_together(4, PAIRED, (1,), (15,))[0]], ["own", ("few", 1), "odd"])
        self.assertIs(is_put_together(4, PAIRED, (1,), (15,), ("odd", 1, 15)), True)

    def test_refused(self):
        with self.assertRaises(InvalidOperation):
            least_mate(SEVENS, HALVES[0], 128)


class AveragesExamples(unittest.TestCase):
    def test_means(self):
        self.assertEqual([count_with(8, 15), count_with(8, 7), count_with(8, 255)], [15, 0, 135])
        self.assertEqual(mean_counts(8), ((1, 1), (0, 1), (28, 9), (0, 1), (70, 9), (0, 1), (28, 9), (0, 1), (1, 1)))

    def test_lighter(self):
        self.assertEqual([lighter(PLAIN, 4), lighter(EIGHT, 6), lighter_in_all(8, 6), neighbour_sum(PLAIN, 4)],
                         [4, 14, 98, 48])
        self.assertIs(does_clear(8, 4), False)
        self.assertIs(does_clear(16, 4), True)

    def test_clearing(self):
        self.assertIs(clearing(EIGHT, 4) == ("clear", (EIGHT,)), True)
        self.assertIs(is_clearing(PLAIN, 4, ("clear", (PLAIN, EIGHT))), True)
        self.assertIs(is_clearing(PLAIN, 4, ("stuck", (PLAIN,))), False)
        self.assertEqual(clearing(Code(2, (3,)), 2)[0], "clear")


class WithinExamples(unittest.TestCase):
    def test_around(self):
        self.assertEqual([first_around(Code(8, ())).basis, first_around(Code(6, (15,))).basis, first_around(Code(4, (1,)))],
                         [(192, 48, 12, 3), (48, 12, 3), None])
        self.assertEqual([count_around(Code(8, ())), count_around(Code(8, (15,))), count_around(Code(8, (7,)))], [135, 15, 0])
        self.assertEqual(around_or_odd(Code(2, (2,))), ("odd", 2, 2))
        self.assertIs(is_around_or_odd(Code(8, (15,)), ("own", EIGHT)), True)
        self.assertEqual([one.basis for one in codes_around(Code(4, ()))], [(9, 6), (10, 5), (12, 3)])

    def test_between(self):
        self.assertEqual(len(codes_between(PLAIN, EIGHT)), 2)
        self.assertIs(is_between(PLAIN, EIGHT, PLAIN), True)
        self.assertIs(between_by(PLAIN, EIGHT, PLAIN) == PLAIN, True)
        self.assertEqual([count_between(PLAIN, TURNED, steps) for steps in (0, 1, 2)] + [len(codes_between(PLAIN, TURNED))],
                         [1, 3, 1, 5])


class DesignsExamples(unittest.TestCase):
    def test_times(self):
        self.assertEqual([times_at(EIGHT, 4, (0, 1, 2)), times_at(PLAIN, 2, (0, 1)), times_at(PLAIN, 4, ()),
                          spread_or_lots(EIGHT, 4, 3), spread_or_lots(EIGHT, 4, 4)[0]], [1, 1, 6, ("spread", 1), "unlike"])

    def test_spread(self):
        self.assertIs(is_spread_or_lots(PLAIN, 2, 2, ("unlike", (0, 1), (0, 2))), True)
        self.assertIs(is_spread_or_lots(PLAIN, 2, 1, ("spread", 1)), True)
        self.assertEqual([spread_or_lots(EIGHT, 2, 5), most_spread(EIGHT, 4), most_spread(PLAIN, 2)], [("spread", 0), 3, 1])

    def test_sure(self):
        self.assertIs(is_sure(EIGHT, 3), True)
        self.assertIs(is_sure(EIGHT, 4), False)
        self.assertIs(is_sure(PLAIN, 1), False)
        self.assertEqual(meetings(EIGHT, 4, 15), (1, 0, 12, 0, 1, 0, 0, 0, 0))

    def test_refused(self):
        with self.assertRaises(InvalidOperation):
            times_at(EIGHT, 4, (1, 0))


class CosetsExamples(unittest.TestCase):
    def test_cosets(self):
        self.assertEqual([coset_of(Code(4, (3, 12)), 5), products_of(EIGHT, 1), word_with(EIGHT, (0, 1, 1, 1))],
                         [(5, 6, 9, 10), (0, 1, 1, 1), 1])
        self.assertEqual([leader(EIGHT, 3), leader(EIGHT, 240), nearest(EIGHT, 3)], [3, 0, (0, 15, 51, 195)])
        self.assertIs(is_leader(EIGHT, 192), True)

    def test_leaders(self):
        self.assertEqual([least_weights(EIGHT), least_weights(PLAIN), radius(EIGHT), farthest(EIGHT), farthest(PLAIN),
                          leaders(Code(4, (3, 12)))], [(1, 8, 7), (1, 4, 6, 4, 1), 2, 3, 85, (0, 1, 4, 5)])

    def test_counts(self):
        self.assertEqual([signed_counts(EIGHT, 1), signed_counts(EIGHT, 3), parent_counts(EIGHT, 1)],
                         [(1, 0, 0, 0, 0, 0, 0, 0, -1), (1, 0, 0, 0, -2, 0, 0, 0, 1), (1, 0, 1, 0, 14, 0, 14, 0, 1, 0, 1)])

    def test_refused(self):
        with self.assertRaises(InvalidOperation):
            parent_counts(EIGHT, 3)


class TextsExamples(unittest.TestCase):
    def test_written(self):
        self.assertEqual([code_text(Code(4, (12, 15))), words_text(3, (6, 1, 6)), exchange_text((2, 0, 1)),
                          counts_text((1, 0, 6, 0, 1))],
                         ["code 4\n  0011\n  1100\nend\n", "words 3\n  011\n  100\n  011\nend\n", "exchange 2 0 1\n",
                          "counts 1 0 6 0 1\n"])

    def test_read(self):
        self.assertEqual([read_code("code 4\n  0011\n  1100\nend\n").basis, read_words("words 2\nend\n"),
                          read_exchange("exchange 0\n"), read_counts("counts -3 0\n")], [(12, 3), (2, ()), (0,), (-3, 0)])

    def test_refused(self):
        for call, text, spot in ((read_code, "code 4\n  0011\n  1111\nend\n", 2), (read_words, "words 2\n  10\n", 2),
                                 (read_exchange, "exchange 1 1\n", 0)):
            with self.assertRaises(ParseError) as caught:
                call(text)
            self.assertEqual(caught.exception.spot, spot)


class BenchExamples(unittest.TestCase):
    def test_one_after_the_other(self):
        bench = Bench()
        bench.put("one", PLAIN)
        bench.put("two", exchanged(PLAIN, (7, 1, 2, 3, 4, 5, 6, 0)))
        self.assertEqual([bench.ask("one", "two")[0], bench.apart("one", "two"), bench.known("two", "one"), str(bench),
                          bench.names], ["alike", 1, None, "bench of 2 codes, 2 edits", ("one", "two")])
        self.assertIs("one" in bench, True)
        bench.put("three", EIGHT)
        self.assertEqual([bench.ask("one", "three"), bench.apart("one", "three")], [("unlike",), 1])
        bench.step("one", 85)
        self.assertEqual([bench.known("one", "two"), bench.known("one", "three"), bench.ask("one", "three")[0]],
                         [None, None, "alike"])
        bench.grow("two", 0)
        self.assertEqual([bench.code_of("two").basis, bench.known("one", "two"), len(bench)], [(768, 130, 65, 48, 12), None, 3])
        with self.assertRaises(UnknownName) as caught:
            bench.code_of("four")
        self.assertEqual(caught.exception.wanted, "four")


class ClaimsExamples(unittest.TestCase):
    def test_in_own_and_held(self):
        self.assertEqual([takes(("in", EIGHT, 60), (2, 3)), takes(("out", EIGHT, 3), 15), takes(("out", EIGHT, 3), 9),
                          takes(("own", EIGHT), ()), takes(("foreign", Code(4, (3,))), ("outside", 12))],
                         [True, False, False, True, True])
        self.assertEqual([takes(("held", Code(4, (15,))), Code(4, (3, 12))), takes(("barred", Code(4, (7,))), (7, 7)),
                          takes(("uneven", PLAIN), 3)], [True, True, True])
        self.assertIs(answered(("uneven", EIGHT)) == (("fours", EIGHT), ()), True)

    def test_apart_and_near(self):
        self.assertEqual([takes(("apart", PLAIN), (0, 1, 4, 5)), takes(("unsplit", Code(2, (3,))), ((0, 1),)),
                          takes(("near", PLAIN, EIGHT, 1), (195, 51, 15)), answered(("far", PLAIN, EIGHT, 0))[0][0]],
                         [True, True, True, "far"])

    def test_two(self):
        self.assertEqual([takes(("two", (1, 0, 0, 0, 14, 0, 0, 0, 1)), (1, -4)), takes(("bent", (1, 0, 2)), ("unlike", 0)),
                          opposite(("held", PLAIN))[0], is_claim(("held", Code(3, ())))], [True, True, "barred", False])

    def test_refused(self):
        with self.assertRaises(InvalidClaim):
            opposite(("fours", Code(4, (3,))))


if __name__ == "__main__":
    unittest.main()
