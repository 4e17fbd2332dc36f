"""The examples of the document, as they stand there."""

import unittest

from ownchecks.base.spans import basis_of, binomial, checks_of, free_places, is_parts_or_check, is_word, meet_of
from ownchecks.base.spans import parts_or_check, places_of, product, remainder_of, span_of, sum_of, weight, word_of
from ownchecks.code.codes import Code, does_hold, dual, even_part, has_word, is_own, is_own_or_shown
from ownchecks.code.codes import own_or_shown, part_on, trace_on, words_of
from ownchecks.errors import InvalidNumber, InvalidOperation, InvalidWord
from ownchecks.near.every import address_of, child, code_at, code_by, codes, count_at, count_of, digit_of, number_of
from ownchecks.near.every import parent, parents
from ownchecks.near.neighbours import distance, nearer, neighbour, neighbours, shared, steps_from, way, ways_count
from ownchecks.same.exchanges import alike_count, backward, climb_of, does_keep, exchange_or_none, exchanged, is_climb
from ownchecks.same.exchanges import is_exchange, led_word, one_behind, orbits_of, order_of, through, through_two
from ownchecks.same.exchanges import tower_of
from ownchecks.weigh.counts import coset_counts, counts_of, dual_counts, dual_or_weight, least_weight, signs
from ownchecks.weigh.counts import transformed, words_of_weight, zero_lots

PLAIN = Code(8, (3, 12, 48, 192))
EIGHT = Code(8, (15, 51, 85, 150))


class SpanExamples(unittest.TestCase):
    def test_words(self):
        self.assertEqual([weight(11), product(11, 7), product(11, 11), places_of(11), word_of((0, 1, 3))],
                         [3, 0, 1, (0, 1, 3), 11])
        self.assertIs(is_word(3, 8), False)
        self.assertIs(is_word(4, True), False)

    def test_one_basis(self):
        self.assertEqual([basis_of(4, (3, 5, 6)), free_places(4, (3, 5, 6)), remainder_of(4, (3, 5, 6), 13)],
                         [(5, 3), (0, 3), 8])
        self.assertEqual([span_of(4, (3, 5, 6)), basis_of(4, (0,))], [(0, 3, 5, 6), ()])

    def test_either_or(self):
        self.assertEqual(parts_or_check(4, (3, 5), 6), ("parts", (0, 1)))
        self.assertIs(is_parts_or_check(4, (3, 5, 6), 6, ("parts", (2,))), True)
        self.assertIs(is_parts_or_check(4, (3, 5), 8, ("check", 15)), True)
        self.assertIs(is_parts_or_check(4, (3, 5), 8, ("check", 9)), False)
        self.assertEqual([checks_of(4, (3, 5, 6)), checks_of(2, ())], [(8, 7), (2, 1)])

    def test_together(self):
        self.assertEqual([sum_of(4, (3,), (5, 9)), meet_of(4, (3, 12), (5, 10))], [(9, 5, 3), (15,)])
        self.assertEqual([binomial(3, 1), binomial(4, 2), binomial(2, 3)], [7, 35, 0])

    def test_refused(self):
        with self.assertRaises(InvalidWord):
            weight(-1)


class CodeExamples(unittest.TestCase):
    def test_codes(self):
        self.assertEqual([PLAIN.basis, EIGHT.basis, EIGHT.dimension, str(EIGHT)],
                         [(192, 48, 12, 3), (150, 85, 51, 15), 4, "code of length 8, dimension 4"])
        self.assertIs(has_word(EIGHT, 90), True)
        self.assertIs(has_word(EIGHT, 3), False)

    def test_duals(self):
        self.assertIs(is_own(EIGHT), True)
        self.assertEqual([dual(Code(4, (3,))).basis, dual(Code(3, ())).basis, even_part(Code(3, (1, 2))).basis],
                         [(8, 4, 3), (4, 2, 1), (3,)])
        self.assertIs(does_hold(PLAIN, Code(8, (15,))), True)

    def test_own_or_shown(self):
        self.assertEqual(own_or_shown(PLAIN), ("own",))
        self.assertIs(is_own_or_shown(Code(4, (3,)), ("outside", 12)), True)
        self.assertIs(is_own_or_shown(Code(2, (1,)), ("odd", 1, 1)), True)
        self.assertIs(is_own_or_shown(Code(2, (1,)), ("outside", 2)), True)
        self.assertEqual(words_of(Code(3, (6, 1))), (0, 1, 6, 7))

    def test_lots(self):
        self.assertEqual([part_on(EIGHT, (0, 1, 2, 3)).basis, trace_on(EIGHT, (0, 1, 2, 3)).basis], [(15,), (9, 5, 3)])
        self.assertEqual([part_on(EIGHT, (0, 1, 7)).basis, trace_on(EIGHT, (0, 1, 7)).basis], [(), (4, 2, 1)])


class CountsExamples(unittest.TestCase):
    def test_counts(self):
        self.assertEqual([counts_of(PLAIN), counts_of(EIGHT), dual_counts(Code(3, (7,))), counts_of(Code(3, ()))],
                         [(1, 0, 4, 0, 6, 0, 4, 0, 1), (1, 0, 0, 0, 14, 0, 0, 0, 1), (1, 0, 3, 0), (1, 0, 0, 0)])

    def test_cosets_and_signs(self):
        self.assertEqual([coset_counts(EIGHT, 1), coset_counts(EIGHT, 3), transformed((1, 0, 1)), signs(8, 4, 4),
                          signs(3, 1, 2)],
                         [(0, 1, 0, 7, 0, 7, 0, 1, 0), (0, 0, 4, 0, 8, 0, 4, 0, 0), (2, 0, 2), 6, -1])

    def test_weights_and_lots(self):
        self.assertEqual([least_weight(EIGHT), least_weight(Code(3, ())), words_of_weight(EIGHT, 4)[:3],
                          zero_lots(counts_of(EIGHT), 2)], [4, None, (15, 51, 60), 112])

    def test_first_looks(self):
        self.assertEqual([dual_or_weight((1, 0, 3, 0)), dual_or_weight((1, 2, 0)), dual_or_weight((1, 3, 0)),
                          dual_or_weight((1, 0, 3))], [("dual", (1, 0, 0, 1)), ("sum",), ("part", 1), ("below", 1)])

    def test_refused(self):
        with self.assertRaises(InvalidNumber) as caught:
            signs(8, 9, 0)
        self.assertEqual(caught.exception.given, 9)


class NeighboursExamples(unittest.TestCase):
    def test_neighbours(self):
        self.assertEqual([len(neighbours(PLAIN)), neighbour(PLAIN, 5).basis, neighbour(PLAIN, 6).basis,
                          distance(PLAIN, EIGHT), shared(PLAIN, EIGHT).basis],
                         [14, (192, 48, 10, 5), (192, 48, 9, 6), 1, (195, 51, 15)])

    def test_ways(self):
        self.assertEqual([steps_from(PLAIN, EIGHT), [one == EIGHT for one in nearer(PLAIN, EIGHT)],
                          len(way(PLAIN, neighbour(neighbour(PLAIN, 5), 17))), ways_count(8, 3)],
                         [(1, 1, 12), [True], 3, 21])

    def test_refused(self):
        with self.assertRaises(InvalidOperation):
            neighbour(PLAIN, 7)


class EveryExamples(unittest.TestCase):
    def test_how_many(self):
        self.assertEqual([count_of(8), [count_at(8, steps) for steps in range(4)], count_of(24)],
                         [135, [1, 14, 56, 64], 175839325399521444375])

    def test_addresses(self):
        self.assertEqual([address_of(PLAIN), address_of(EIGHT), number_of(EIGHT)], [(0, 0, 0), (0, 0, 7), 7])
        self.assertIs(code_at((0, 0, 7)) == EIGHT, True)
        self.assertIs(code_by(8, 0) == PLAIN, True)

    def test_children_and_parents(self):
        self.assertEqual([child(EIGHT, 6, 7).basis, digit_of(EIGHT), child(EIGHT, 0, 2).basis],
                         [(48, 12, 3), 7, (40, 20, 3)])
        self.assertIs(parent(child(EIGHT, 6, 7), 7) == EIGHT, True)
        self.assertEqual([len(parents(Code(2, (3,)))), sum([1 for one in codes(8) if distance(one, EIGHT) == 1])],
                         [3, 14])

    def test_refused(self):
        with self.assertRaises(InvalidNumber) as caught:
            parent(PLAIN, 17)
        self.assertEqual(caught.exception.given, 17)


class ExchangesExamples(unittest.TestCase):
    def test_exchanges(self):
        self.assertEqual([is_exchange(3, (1, 2, 0)), is_exchange(3, (1, 1, 0)), backward((1, 2, 0)),
                          one_behind((1, 2, 0), (1, 0, 2)), led_word((1, 2, 0), 3)],
                         [True, False, (2, 0, 1), (0, 2, 1), 6])

    def test_alike(self):
        self.assertIs(does_keep(PLAIN, (1, 0, 2, 3, 4, 5, 6, 7)), True)
        self.assertEqual(exchanged(PLAIN, (0, 2, 1, 3, 4, 5, 6, 7)).basis, (192, 48, 10, 5))
        self.assertIsNone(exchange_or_none(PLAIN, EIGHT))

    def test_towers(self):
        self.assertEqual(tower_of(EIGHT), ((0, 1, 2, 3, 4, 5, 6, 7), (1, 2, 3, 4, 5, 6, 7), (2, 3, 4, 5, 6, 7), (3,),
                                           (4, 5, 6, 7), (5,), (6,), (7,)))
        self.assertEqual([order_of(EIGHT), order_of(PLAIN), alike_count(EIGHT), alike_count(PLAIN), orbits_of(PLAIN)],
                         [1344, 384, 30, 105, ((0, 1, 2, 3, 4, 5, 6, 7),)])

    def test_through(self):
        self.assertEqual([through(EIGHT, 0), through_two(EIGHT, 0, 1), len(climb_of(PLAIN)[2])],
                         [(0, 0, 0, 0, 7, 0, 0, 0, 1), (0, 0, 0, 0, 3, 0, 0, 0, 1), 6])
        self.assertIs(through_two(PLAIN, 0, 1) == through(PLAIN, 0), True)
        self.assertIs(is_climb(EIGHT, climb_of(EIGHT)), True)

    def test_refused(self):
        with self.assertRaises(InvalidOperation):
            exchanged(PLAIN, (0, 1, 2))


if __name__ == "__main__":
    unittest.main()
