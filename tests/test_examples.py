"""The examples of the document, as they stand there."""

import unittest

from ownchecks.base.spans import basis_of, binomial, checks_of, free_places, is_parts_or_check, is_word, meet_of
from ownchecks.base.spans import parts_or_check, places_of, product, remainder_of, span_of, sum_of, weight, word_of
from ownchecks.code.codes import Code, does_hold, dual, even_part, has_word, is_own, is_own_or_shown
from ownchecks.code.codes import own_or_shown, part_on, trace_on, words_of
from ownchecks.errors import InvalidNumber, InvalidOperation, InvalidWord, Refused, UnknownName
from ownchecks.four.families import are_one_family, count_by_fours, count_by_fours_at, eights, fours_neighbour
from ownchecks.four.families import fours_or_word, half, is_by_fours, is_fours_or_word, is_way_by_fours
from ownchecks.four.families import neighbours_by_fours, way_by_fours
from ownchecks.four.shades import beside, counts_or_weight, is_counts_or_weight, raised, shadow_counts
from ownchecks.four.shadows import is_shadow_or_word, least_shadow, quarter_of, quarter_products, quarters, shadow
from ownchecks.four.shadows import shadow_or_word
from ownchecks.kinds.masses import complete_or_lacks, is_complete_or_lacks, is_kinds_of, kind_in, kinds_of, mass_of
from ownchecks.kinds.masses import masses_of, unlike_or_alike, weighed_counts
from ownchecks.kinds.tables import distance_table, is_nearest, kinds_apart, nearest, rows_for, table_of, walk_table
from ownchecks.kinds.tables import worth_numbers, worths
from ownchecks.near.every import address_of, child, code_at, code_by, codes, count_at, count_of, digit_of, number_of
from ownchecks.near.every import parent, parents
from ownchecks.near.neighbours import distance, nearer, neighbour, neighbours, shared, steps_from, way, ways_count
from ownchecks.same.exchanges import alike_count, backward, climb_of, does_keep, exchange_or_none, exchanged, is_climb
from ownchecks.same.exchanges import is_exchange, led_word, one_behind, orbits_of, order_of, through, through_two
from ownchecks.same.exchanges import tower_of
from ownchecks.same.fours import are_alike_by_fours, bare_places, fingerprint, fours_of, is_laying, pairs_of, pattern
from ownchecks.same.fours import told_lots, twins_of
from ownchecks.same.parts import gap_at, is_split_or_word, is_unsplit, side_by_side, split_or_word, summed_at, ties
from ownchecks.same.parts import unsplit_lots, unsplit_parts
from ownchecks.weigh.counts import coset_counts, counts_of, dual_counts, dual_or_weight, least_weight, signs
from ownchecks.weigh.counts import transformed, words_of_weight, zero_lots
from ownchecks.weigh.two import barest, four_barest, four_parts_or_weight, four_row, parts_of, parts_or_weight, row_by
from ownchecks.weigh.two import row_by_light, two_row

PLAIN = Code(8, (3, 12, 48, 192))
EIGHT = Code(8, (15, 51, 85, 150))
MIXED, STRIP = Code(10, (3, 60, 204, 340, 600)), Code(12, (15, 60, 240, 960, 3840, 1365))
SEVENS = Code(14, (15, 51, 85, 1920, 6528, 10880, 16383))
TWO = (PLAIN, EIGHT)
OTHER = fours_neighbour(EIGHT, 3)


class SpanExamples(unittest.TestCase):
    def test_words(self):
        self.assertEqual([weight(11), product(11, 7), product(11, 11), places_of(11), word_of((0, 1, 3))],
                         [3, 0, 1, (0, 1, 3), 11])
        self.assertIs(is_word(3, 8), False)
        self.assertIs(is_word(4, True), False)

    def test_one_basis(self):
        self.assertEqual([basis_of(4, (3, 5, 6)), free_places(4, (3, 5, 6)), remainder_of(4, (3, 5, 6), 13)],
                         [(5, 3), (0, 3), 8])
        self.assertEqual([span_of(4, (3, 5, 6)), basis_of(4, (0,))], [(0, 3, 5, 6), ()])

    def test_either_or(self):
        self.assertEqual(parts_or_check(4, (3, 5), 6), ("parts", (0, 1)))
        self.assertIs(is_parts_or_check(4, (3, 5, 6), 6, ("parts", (2,))), True)
        self.assertIs(is_parts_or_check(4, (3, 5), 8, ("check", 15)), True)
        self.assertIs(is_parts_or_check(4, (3, 5), 8, ("check", 9)), False)
        self.assertEqual([checks_of(4, (3, 5, 6)), checks_of(2, ())], [(8, 7), (2, 1)])

    def test_together(self):
        self.assertEqual([sum_of(4, (3,), (5, 9)), meet_of(4, (3, 12), (5, 10))], [(9, 5, 3), (15,)])
        self.assertEqual([binomial(3, 1), binomial(4, 2), binomial(2, 3)], [7, 35, 0])

    def test_refused(self):
        with self.assertRaises(InvalidWord):
            weight(-1)


class CodeExamples(unittest.TestCase):
    def test_codes(self):
        self.assertEqual([PLAIN.basis, EIGHT.basis, EIGHT.dimension, str(EIGHT)],
                         [(192, 48, 12, 3), (150, 85, 51, 15), 4, "code of length 8, dimension 4"])
        self.assertIs(has_word(EIGHT, 90), True)
        self.assertIs(has_word(EIGHT, 3), False)

    def test_duals(self):
        self.assertIs(is_own(EIGHT), True)
        self.assertEqual([dual(Code(4, (3,))).basis, dual(Code(3, ())).basis, even_part(Code(3, (1, 2))).basis],
                         [(8, 4, 3), (4, 2, 1), (3,)])
        self.assertIs(does_hold(PLAIN, Code(8, (15,))), True)

    def test_own_or_shown(self):
        self.assertEqual(own_or_shown(PLAIN), ("own",))
        self.assertIs(is_own_or_shown(Code(4, (3,)), ("outside", 12)), True)
        self.assertIs(is_own_or_shown(Code(2, (1,)), ("odd", 1, 1)), True)
        self.assertIs(is_own_or_shown(Code(2, (1,)), ("outside", 2)), True)
        self.assertEqual(words_of(Code(3, (6, 1))), (0, 1, 6, 7))

    def test_lots(self):
        self.assertEqual([part_on(EIGHT, (0, 1, 2, 3)).basis, trace_on(EIGHT, (0, 1, 2, 3)).basis], [(15,), (9, 5, 3)])
        self.assertEqual([part_on(EIGHT, (0, 1, 7)).basis, trace_on(EIGHT, (0, 1, 7)).basis], [(), (4, 2, 1)])


class CountsExamples(unittest.TestCase):
    def test_counts(self):
        self.assertEqual([counts_of(PLAIN), counts_of(EIGHT), dual_counts(Code(3, (7,))), counts_of(Code(3, ()))],
                         [(1, 0, 4, 0, 6, 0, 4, 0, 1), (1, 0, 0, 0, 14, 0, 0, 0, 1), (1, 0, 3, 0), (1, 0, 0, 0)])

    def test_cosets_and_signs(self):
        self.assertEqual([coset_counts(EIGHT, 1), coset_counts(EIGHT, 3), transformed((1, 0, 1)), signs(8, 4, 4),
                          signs(3, 1, 2)],
                         [(0, 1, 0, 7, 0, 7, 0, 1, 0), (0, 0, 4, 0, 8, 0, 4, 0, 0), (2, 0, 2), 6, -1])

    def test_weights_and_lots(self):
        self.assertEqual([least_weight(EIGHT), least_weight(Code(3, ())), words_of_weight(EIGHT, 4)[:3],
                          zero_lots(counts_of(EIGHT), 2)], [4, None, (15, 51, 60), 112])

    def test_first_looks(self):
        self.assertEqual([dual_or_weight((1, 0, 3, 0)), dual_or_weight((1, 2, 0)), dual_or_weight((1, 3, 0)),
                          dual_or_weight((1, 0, 3))], [("dual", (1, 0, 0, 1)), ("sum",), ("part", 1), ("below", 1)])

    def test_refused(self):
        with self.assertRaises(InvalidNumber) as caught:
            signs(8, 9, 0)
        self.assertEqual(caught.exception.given, 9)


class NeighboursExamples(unittest.TestCase):
    def test_neighbours(self):
        self.assertEqual([len(neighbours(PLAIN)), neighbour(PLAIN, 5).basis, neighbour(PLAIN, 6).basis,
                          distance(PLAIN, EIGHT), shared(PLAIN, EIGHT).basis],
                         [14, (192, 48, 10, 5), (192, 48, 9, 6), 1, (195, 51, 15)])

    def test_ways(self):
        self.assertEqual([steps_from(PLAIN, EIGHT), [one == EIGHT for one in nearer(PLAIN, EIGHT)],
                          len(way(PLAIN, neighbour(neighbour(PLAIN, 5), 17))), ways_count(8, 3)],
                         [(1, 1, 12), [True], 3, 21])

    def test_refused(self):
        with self.assertRaises(InvalidOperation):
            neighbour(PLAIN, 7)


class EveryExamples(unittest.TestCase):
    def test_how_many(self):
        self.assertEqual([count_of(8), [count_at(8, steps) for steps in range(4)], count_of(24)],
                         [135, [1, 14, 56, 64], 175839325399521444375])

    def test_addresses(self):
        self.assertEqual([address_of(PLAIN), address_of(EIGHT), number_of(EIGHT)], [(0, 0, 0), (0, 0, 7), 7])
        self.assertIs(code_at((0, 0, 7)) == EIGHT, True)
        self.assertIs(code_by(8, 0) == PLAIN, True)

    def test_children_and_parents(self):
        self.assertEqual([child(EIGHT, 6, 7).basis, digit_of(EIGHT), child(EIGHT, 0, 2).basis],
                         [(48, 12, 3), 7, (40, 20, 3)])
        self.assertIs(parent(child(EIGHT, 6, 7), 7) == EIGHT, True)
        self.assertEqual([len(parents(Code(2, (3,)))), sum([1 for one in codes(8) if distance(one, EIGHT) == 1])],
                         [3, 14])

    def test_refused(self):
        with self.assertRaises(InvalidNumber) as caught:
            parent(PLAIN, 17)
        self.assertEqual(caught.exception.given, 17)


class ExchangesExamples(unittest.TestCase):
    def test_exchanges(self):
        self.assertEqual([is_exchange(3, (1, 2, 0)), is_exchange(3, (1, 1, 0)), backward((1, 2, 0)),
                          one_behind((1, 2, 0), (1, 0, 2)), led_word((1, 2, 0), 3)],
                         [True, False, (2, 0, 1), (0, 2, 1), 6])

    def test_alike(self):
        self.assertIs(does_keep(PLAIN, (1, 0, 2, 3, 4, 5, 6, 7)), True)
        self.assertEqual(exchanged(PLAIN, (0, 2, 1, 3, 4, 5, 6, 7)).basis, (192, 48, 10, 5))
        self.assertIsNone(exchange_or_none(PLAIN, EIGHT))

    def test_towers(self):
        self.assertEqual(tower_of(EIGHT), ((0, 1, 2, 3, 4, 5, 6, 7), (1, 2, 3, 4, 5, 6, 7), (2, 3, 4, 5, 6, 7), (3,),
                                           (4, 5, 6, 7), (5,), (6,), (7,)))
        self.assertEqual([order_of(EIGHT), order_of(PLAIN), alike_count(EIGHT), alike_count(PLAIN), orbits_of(PLAIN)],
                         [1344, 384, 30, 105, ((0, 1, 2, 3, 4, 5, 6, 7),)])

    def test_through(self):
        self.assertEqual([through(EIGHT, 0), through_two(EIGHT, 0, 1), len(climb_of(PLAIN)[2])],
                         [(0, 0, 0, 0, 7, 0, 0, 0, 1), (0, 0, 0, 0, 3, 0, 0, 0, 1), 6])
        self.assertIs(through_two(PLAIN, 0, 1) == through(PLAIN, 0), True)
        self.assertIs(is_climb(EIGHT, climb_of(EIGHT)), True)

    def test_refused(self):
        with self.assertRaises(InvalidOperation):
            exchanged(PLAIN, (0, 1, 2))


class PartsExamples(unittest.TestCase):
    def test_what_falls_apart(self):
        self.assertEqual([unsplit_lots(MIXED), unsplit_parts(MIXED)[1] == EIGHT, is_unsplit(STRIP), unsplit_lots(PLAIN)],
                         [((0, 1), (2, 3, 4, 5, 6, 7, 8, 9)), True, True, ((0, 1), (2, 3), (4, 5), (6, 7))])

    def test_gaps(self):
        self.assertEqual([gap_at(STRIP, (0, 1, 2, 3)), gap_at(STRIP, (4, 5, 6, 7, 8, 9, 10, 11)), gap_at(EIGHT, (0, 1)),
                          gap_at(MIXED, (0, 1)), gap_at(EIGHT, (7,))], [2, 2, 2, 0, 1])

    def test_split_or_word(self):
        self.assertEqual([split_or_word(MIXED, (0, 1)), ties(PLAIN)], [("split",), ((0, 1), (2, 3), (4, 5), (6, 7))])
        self.assertIs(is_split_or_word(EIGHT, (0, 1), ("word", 150)), True)
        self.assertIs(is_split_or_word(EIGHT, (0, 1), ("word", 15)), True)

    def test_sums(self):
        self.assertIs(side_by_side((Code(2, (3,)), EIGHT)) == MIXED, True)
        self.assertEqual(summed_at(((0, 2), (1, 3)), (Code(2, (3,)),) * 2).basis, (10, 5))

    def test_refused(self):
        with self.assertRaises(InvalidOperation):
            split_or_word(PLAIN, (0, 1, 2, 3, 4, 5, 6, 7))


class FoursExamples(unittest.TestCase):
    def test_fingerprints(self):
        self.assertEqual([pairs_of(MIXED), len(fours_of(MIXED)), told_lots(MIXED)[0], fingerprint(MIXED),
                          fingerprint(SEVENS), fingerprint(STRIP), fingerprint(PLAIN)],
                         [(3,), 14, ("pair", (0, 1)), (("eight", 8), ("pair", 2)), (("seven", 7), ("seven", 7)),
                          (("strip", 12),), (("pair", 2), ("pair", 2), ("pair", 2), ("pair", 2))])

    def test_told_lots(self):
        self.assertEqual([told_lots(SEVENS)[1], bare_places(SEVENS), twins_of(STRIP, tuple(range(12))),
                          pattern("strip", 8).basis, pattern("seven", 7).basis],
                         [("seven", (7, 8, 9, 10, 11, 12, 13)), (), ((0, 1), (2, 3), (4, 5), (6, 7), (8, 9), (10, 11)),
                          (195, 51, 15), (85, 51, 15)])

    def test_layings(self):
        self.assertIs(is_laying(STRIP, tuple(range(12)), (1, 0, 3, 2, 5, 4, 7, 6, 9, 8, 11, 10)), True)
        self.assertIs(is_laying(STRIP, tuple(range(12)), (0, 2, 1, 3, 4, 5, 6, 7, 8, 9, 10, 11)), False)
        self.assertIs(are_alike_by_fours(EIGHT, PLAIN), False)

    def test_refused(self):
        with self.assertRaises(UnknownName) as caught:
            pattern("nine", 9)
        self.assertEqual(caught.exception.wanted, "nine")


class MassesExamples(unittest.TestCase):
    def test_masses(self):
        self.assertEqual([mass_of(PLAIN), mass_of(EIGHT), masses_of((EIGHT, PLAIN)), complete_or_lacks((PLAIN, EIGHT)),
                          complete_or_lacks((PLAIN,))[0]], [105, 30, (30, 105), ("complete", (105, 30)), "lacks"])

    def test_kinds(self):
        self.assertEqual([weighed_counts((PLAIN, EIGHT)), kind_in((PLAIN, EIGHT), EIGHT), kind_in((PLAIN,), EIGHT),
                          unlike_or_alike((PLAIN, EIGHT)), len(kinds_of(12))],
                         [(135, 0, 420, 0, 1050, 0, 420, 0, 135), 1, None, ("unlike",), 3])

    def test_judged(self):
        self.assertIs(is_complete_or_lacks((PLAIN,), ("lacks", EIGHT)), True)
        self.assertIs(is_complete_or_lacks((PLAIN,), ("lacks", PLAIN)), False)
        self.assertIs(is_kinds_of(8, (EIGHT, PLAIN)), True)
        self.assertIs(is_kinds_of(8, (EIGHT,)), False)

    def test_refused(self):
        with self.assertRaises(Refused) as caught:
            masses_of((PLAIN, EIGHT, PLAIN))
        self.assertEqual(caught.exception.reason, ("alike", 0, 2))


class TablesExamples(unittest.TestCase):
    def test_tables(self):
        self.assertEqual([table_of(TWO), distance_table(TWO, 2), distance_table(TWO, 3), walk_table(TWO, 2), worths(8),
                          worth_numbers(TWO)],
                         [((12, 2), (7, 7)), ((44, 12), (42, 14)), ((48, 16), (56, 8)), ((158, 38), (133, 63)),
                          (14, 5, -1, -7), (1, 1, 0, 0)])

    def test_rows_and_nearest(self):
        self.assertEqual([rows_for(TWO, 0), rows_for(TWO, 1), kinds_apart(TWO, 0, 1)], [((7, 2),), ((1, -1),), 1])
        self.assertIs(is_nearest(TWO, 0, 1, EIGHT), True)
        self.assertIs(is_nearest(TWO, 1, 0, EIGHT), False)
        self.assertIs(nearest(TWO, 0, 0) == PLAIN, True)

    def test_refused(self):
        with self.assertRaises(Refused) as caught:
            table_of((PLAIN,))
        self.assertEqual(caught.exception.reason, ("lacks",))


class TwoExamples(unittest.TestCase):
    def test_rows(self):
        self.assertEqual([two_row(8, 0), two_row(8, 1), four_row(8, 0), row_by(8, (1, -4))],
                         [(1, 0, 4, 0, 6, 0, 4, 0, 1), (0, 0, 1, 0, -2, 0, 1, 0, 0), (1, 0, 0, 0, 14, 0, 0, 0, 1),
                          (1, 0, 0, 0, 14, 0, 0, 0, 1)])

    def test_parts(self):
        self.assertEqual([parts_or_weight((1, 0, 1)), parts_or_weight((1, 1, 1)), parts_or_weight((1, 0, 2)),
                          parts_of(EIGHT), four_parts_or_weight(counts_of(EIGHT)), four_parts_or_weight(counts_of(PLAIN))],
                         [("parts", (1,)), ("odd", 1), ("unlike", 0), (1, -4), ("parts", (1,)), ("weight", 2)])

    def test_light(self):
        self.assertIs(row_by_light(8, (1, 4)) == counts_of(PLAIN), True)
        self.assertEqual([barest(10), four_barest(24)[8], barest(16)[4:7]],
                         [(1, 0, 0, 0, 15, 0, 15, 0, 0, 0, 1), 759, (0, 0, 112)])

    def test_refused(self):
        with self.assertRaises(InvalidOperation):
            parts_or_weight((1, 0, 0, 1))


class FamiliesExamples(unittest.TestCase):
    def test_by_fours(self):
        self.assertEqual([is_by_fours(PLAIN), is_by_fours(EIGHT), fours_or_word(EIGHT),
                          is_fours_or_word(PLAIN, ("word", 63)), half(PLAIN).basis],
                         [False, True, ("fours",), True, (195, 51, 15)])

    def test_how_many(self):
        self.assertEqual([count_by_fours(8), count_by_fours(16), count_by_fours(12),
                          [count_by_fours_at(8, distance) for distance in range(5)], eights(8) == EIGHT],
                         [30, 9845550, 0, [1, 7, 14, 8, 0], True])

    def test_ways(self):
        self.assertEqual([OTHER.basis, len(neighbours_by_fours(EIGHT)), are_one_family(EIGHT, OTHER),
                          len(way_by_fours(EIGHT, OTHER)), is_way_by_fours(EIGHT, EIGHT, (EIGHT, OTHER, EIGHT))],
                         [(149, 86, 51, 15), 7, False, 2, True])

    def test_refused(self):
        with self.assertRaises(Refused) as caught:
            eights(12)
        self.assertEqual(caught.exception.reason, ("length",))


class ShadowsExamples(unittest.TestCase):
    def test_shadows(self):
        self.assertEqual([least_shadow(PLAIN), least_shadow(EIGHT), len(shadow(PLAIN)), shadow(PLAIN)[-1],
                          shadow_or_word(PLAIN, 90), shadow_or_word(PLAIN, 1)[0]], [85, 0, 16, 170, ("shadow",), "word"])

    def test_quarters(self):
        self.assertEqual([quarters(PLAIN), quarter_of(PLAIN, 170), quarter_of(PLAIN, 169), quarter_of(PLAIN, 1),
                          quarter_products(8)],
                         [(0, 85, 3, 86), 1, 3, None, ((0, 0, 0, 0), (0, 0, 1, 1), (0, 1, 0, 1), (0, 1, 1, 0))])

    def test_judged(self):
        self.assertIs(is_shadow_or_word(PLAIN, 1, ("word", 12)), True)
        self.assertIs(is_shadow_or_word(PLAIN, 1, ("word", 3)), False)
        self.assertIs(is_shadow_or_word(PLAIN, 85, ("shadow",)), True)

    def test_refused(self):
        with self.assertRaises(Refused) as caught:
            quarters(EIGHT)
        self.assertEqual(caught.exception.reason, ("fours",))


class ShadesExamples(unittest.TestCase):
    def test_counts(self):
        self.assertEqual([shadow_counts(PLAIN), shadow_counts(EIGHT)],
                         [(0, 0, 0, 0, 16, 0, 0, 0, 0), (1, 0, 0, 0, 14, 0, 0, 0, 1)])
        self.assertIs(counts_or_weight(8, (1, 0)) == ("counts", shadow_counts(PLAIN)), True)
        self.assertIs(counts_or_weight(8, (1, -4)) == ("counts", shadow_counts(EIGHT)), True)

    def test_weights(self):
        self.assertEqual([counts_or_weight(8, (1, -3)), counts_or_weight(8, (1, -36)), counts_or_weight(2, (1,))],
                         [("weight", 0), ("weight", 4), ("counts", (0, 2, 0))])
        self.assertIs(is_counts_or_weight(8, (1, -3), ("weight", 4)), False)

    def test_beside(self):
        self.assertIs(beside(PLAIN) == (OTHER, EIGHT), True)
        self.assertIs(raised(Code(6, (3, 12, 48))) == beside(PLAIN), True)
        self.assertEqual([one.basis for one in beside(Code(4, (3, 12)))], [(9, 6), (10, 5)])

    def test_refused(self):
        with self.assertRaises(Refused) as caught:
            beside(Code(6, (3, 12, 48)))
        self.assertEqual(caught.exception.reason, ("length",))


if __name__ == "__main__":
    unittest.main()
