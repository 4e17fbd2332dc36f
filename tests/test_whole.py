"""[0.12] to [0.19] over the whole program: what its modules answer about the same codes goes together."""

import collections
import itertools
import math
import random
import unittest
from fractions import Fraction

from ownchecks.code.codes import Code, dual, is_own, part_on
from ownchecks.four.families import are_one_family, count_by_fours, half, is_by_fours, neighbours_by_fours
from ownchecks.four.shades import beside, counts_or_weight, raised, shadow_counts
from ownchecks.four.shadows import least_shadow, quarters, shadow
from ownchecks.kinds.masses import complete_or_lacks, kind_in, kinds_of, mass_of, weighed_counts
from ownchecks.kinds.tables import distance_table, table_of
from ownchecks.near.averages import clearing, count_with, does_clear, lighter, mean_counts, neighbour_sum
from ownchecks.near.every import address_of, child, code_at, code_by, codes, count_at, count_of, digit_of, number_of
from ownchecks.near.every import parent, parents
from ownchecks.near.neighbours import distance, neighbours, shared, steps_from, way
from ownchecks.near.within import codes_around, codes_between, count_around, is_between
from ownchecks.same.exchanges import alike_count, exchange_or_none, exchanged
from ownchecks.same.fours import are_alike_by_fours, fingerprint
from ownchecks.same.glue import glue, glue_dimension, parts_span, put_together
from ownchecks.same.parts import gap_at, is_unsplit, side_by_side, split_or_word, unsplit_lots, unsplit_parts
from ownchecks.weigh.counts import coset_counts, counts_of, dual_counts, transformed
from ownchecks.weigh.designs import times_at
from ownchecks.weigh.two import parts_of, row_by
from tests import naive
from tests.kinds import EIGHT, GOLAY, LISTS, PAIR, PLAIN, SEVENS, SIXTEEN, STRIP, mixed_up, plain, some, told
from tests.naive import times


class LengthEight(unittest.TestCase):
    """All own codes of the length 8."""

    @classmethod
    def setUpClass(cls):
        cls.all = list(codes(8))
        cls.rows = [counts_of(code) for code in cls.all]

    def test_all_of_them(self):
        self.assertEqual(len(self.all), count_of(8))
        self.assertEqual({naive.sums(code.basis) for code in self.all}, set(naive.own_codes(8)))
        self.assertEqual([number_of(code) for code in self.all], list(range(135)))
        self.assertEqual(sorted(code.basis for code in self.all), [code.basis for code in codes_around(Code(8, ()))])

    def test_kinds_masses_and_counts(self):
        kinds = kinds_of(8)
        answer, masses = complete_or_lacks(kinds)
        self.assertEqual((answer, sum(masses)), ("complete", len(self.all)))
        found = collections.Counter(kind_in(kinds, code) for code in self.all)
        self.assertEqual([found[at] for at in range(len(kinds))], list(masses))
        self.assertEqual(masses, tuple(alike_count(code) for code in kinds))
        for code, row in zip(self.all, self.rows):
            kind = kinds[kind_in(kinds, code)]
            self.assertEqual((mass_of(code), row), (mass_of(kind), counts_of(kind)))
            self.assertEqual(fingerprint(code), fingerprint(kind))
            self.assertEqual(exchanged(kind, exchange_or_none(kind, code)), code)
        self.assertEqual(weighed_counts(kinds), tuple(map(sum, zip(*self.rows))))

    def test_counts_and_means(self):
        for weight, (top, bottom) in enumerate(mean_counts(8)):
            self.assertEqual(Fraction(top, bottom), Fraction(sum(row[weight] for row in self.rows), 135))
        for code, row in zip(self.all, self.rows):
            self.assertEqual(dual_counts(code), row)
            self.assertEqual(transformed(row), tuple(16 * number for number in row))
            self.assertEqual(row_by(8, parts_of(code)), row)
        for word in range(256):
            self.assertEqual(count_with(8, word), len([span for span in naive.own_codes(8) if word in span]))

    def test_parts(self):
        for code, row in zip(self.all, self.rows):
            lots, parts = unsplit_lots(code), unsplit_parts(code)
            self.assertIs(is_unsplit(code), len(parts) == 1)
            product = (1,)
            for part in parts:
                product = times(product, counts_of(part))
            self.assertEqual(product, row)
            self.assertEqual(sorted(naive.dimension(naive.sums(part.basis)) for part in parts), [len(lot) // 2 for lot in lots])
            # a code is unsplit here just if it is by fours
            self.assertIs(is_unsplit(code), is_by_fours(code))

    def test_families_and_shadows(self):
        fours = [code for code in self.all if is_by_fours(code)]
        self.assertEqual(len(fours), count_by_fours(8))
        first = [code for code in fours if are_one_family(code, fours[0])]
        self.assertEqual(2 * len(first), len(fours))
        for one, other in itertools.product(fours, repeat=2):
            self.assertIs(distance(one, other) % 2 == 0, (one in first) == (other in first))
        for code, row in zip(self.all, self.rows):
            self.assertEqual(counts_or_weight(8, parts_of(code)), ("counts", shadow_counts(code)))
            self.assertIs(least_shadow(code) == 0, is_by_fours(code))
            self.assertIs(shadow_counts(code) == row, is_by_fours(code))
            near = [one for one in neighbours(code) if is_by_fours(one)]
            if is_by_fours(code):
                self.assertEqual(tuple(near), neighbours_by_fours(code))
                self.assertFalse([one for one in near if are_one_family(one, code)])
            else:
                self.assertEqual(tuple(near), beside(code))
                self.assertEqual(distance(*near), 1)

    def test_neighbours_and_distances(self):
        kinds = kinds_of(8)
        tables = [distance_table(kinds, far) for far in range(4)]
        self.assertEqual(tables[1], table_of(kinds))
        for code in self.all[::11]:
            here = kind_in(kinds, code)
            fars = [distance(code, other) for other in self.all]
            self.assertEqual([fars.count(far) for far in range(4)], [count_at(8, far) for far in range(4)])
            for far in range(4):
                row = collections.Counter(kind_in(kinds, other) for other, at in zip(self.all, fars) if at == far)
                self.assertEqual(tuple(row[at] for at in range(2)), tables[far][here])
            near = [other for other, far in zip(self.all, fars) if far == 1]
            self.assertEqual(sorted(one.basis for one in near), [one.basis for one in neighbours(code)])
            for bound in (2, 4, 6, 8):
                self.assertEqual(neighbour_sum(code, bound), sum(lighter(one, bound) for one in near))
            for other, far in list(zip(self.all, fars))[::5]:
                steps = [distance(one, other) - far for one in near]
                self.assertEqual(steps_from(code, other), (steps.count(-1), steps.count(0), steps.count(1)))
                self.assertEqual(len(way(code, other)), far + 1)
                self.assertTrue(all(is_between(code, other, one) for one in way(code, other)))
                self.assertEqual(len([one for one in self.all if is_between(code, other, one)]),
                                 len(codes_between(code, other)))
                self.assertEqual(count_around(shared(code, other)), math.prod(2 ** at + 1 for at in range(1, far + 1)))

    def test_children(self):
        counted = collections.Counter()
        for code in self.all:
            lower = child(code, 6, 7)
            self.assertIs(is_own(lower), True)
            self.assertEqual(parent(lower, digit_of(code)), code)
            self.assertEqual(address_of(code), address_of(lower) + (digit_of(code),))
            counted[number_of(lower)] += 1
            for one, other in itertools.combinations(range(8), 2):
                below = child(code, one, other)
                self.assertIs(is_own(below), True)
                if times_at(code, 2, (one, other)):
                    # the two places fall apart from the others
                    rest = tuple(place for place in range(8) if place not in (one, other))
                    self.assertEqual(below, part_on(code, rest))
                    self.assertEqual(split_or_word(code, (one, other)), ("split",))
        self.assertEqual(counted, {number: 9 for number in range(15)})

    def test_equal_counts_of_times(self):
        for code in self.all[::4]:
            for weight in (2, 4, 6):
                pairs = [times_at(code, weight, pair) for pair in itertools.combinations(range(8), 2)]
                self.assertEqual(sum(pairs), math.comb(weight, 2) * counts_of(code)[weight])


class ByAddresses(unittest.TestCase):
    """Codes by addresses, their parents and children, and what falls apart."""

    def test_addresses(self):
        source = random.Random(191)
        for length in range(4, 26, 2):
            for _ in range(4):
                address = tuple(source.randrange(2 ** (at + 1) + 1) for at in range(length // 2 - 1))
                code = code_at(address)
                self.assertIs(is_own(code), True)
                self.assertEqual((address_of(code), code_by(length, number_of(code))), (address, code))
                lower = child(code, length - 2, length - 1)
                self.assertEqual((address_of(lower), digit_of(code)), (address[:-1], address[-1]))
                self.assertEqual(parent(lower, address[-1]), code)
                self.assertIs(times_at(code, 2, (length - 2, length - 1)) == 1, address[-1] == 0)

    def test_parents(self):
        for code in some(192, range(2, 12, 2), 2) + [PLAIN, EIGHT]:
            found = parents(code)
            self.assertEqual(len({one.basis for one in found}), 2 ** (code.length // 2) + 1)
            self.assertEqual(found[0], side_by_side((code, PAIR)))
            for digit, one in enumerate(found):
                self.assertEqual((child(one, code.length, code.length + 1), digit_of(one)), (code, digit))
            # they are the own codes around what each of them has: the code's words, and those of both new places
            for one, other in list(itertools.combinations(found, 2))[:40]:
                self.assertEqual(distance(one, other), 1 if shared(one, other).dimension == one.dimension - 1 else 2)

    def test_children_and_distances(self):
        source = random.Random(193)
        for length in (6, 8, 10, 12):
            for one, other in itertools.combinations(some(194 + length, (length,), 5), 2):
                place, then = sorted(source.sample(range(length), 2))
                far = distance(child(one, place, then), child(other, place, then))
                self.assertLessEqual(far, distance(one, other))
                self.assertLessEqual(distance(one, other) - far, 2)

    def test_what_falls_apart(self):
        source = random.Random(195)
        for length in range(2, 26, 2):
            for code in some(196, (length,), 2) + [plain(length)] + list(LISTS.get(length, ())):
                lots = unsplit_lots(code)
                self.assertEqual(sorted(place for lot in lots for place in lot), list(range(length)))
                if len(lots) > 1:
                    self.assertEqual((glue(code, lots), parts_span(code, lots)), ((), code.basis))
                for many in range(1, len(lots)):
                    lot = tuple(sorted(place for one in lots[:many] for place in one))
                    self.assertEqual((split_or_word(code, lot), gap_at(code, lot)), (("split",), 0))
                    self.assertIs(is_own(part_on(code, lot)), True)
                places = mixed_up(length, source)
                halves = (tuple(sorted(places[:length // 2])), tuple(sorted(places[length // 2:])))
                self.assertEqual(glue_dimension(code, halves), gap_at(code, halves[0]))
                apart = all(set(lot) <= set(halves[0]) or set(lot) <= set(halves[1]) for lot in lots)
                self.assertIs(split_or_word(code, halves[0]) == ("split",), apart)
                self.assertEqual(put_together(length, halves, (), code.basis), ("own", code))

    def test_around_parents_children(self):
        for code in some(197, (4, 6, 8), 3):
            inner = Code(code.length + 2, code.basis)
            # the words of the code, and all: own codes around them have the word of both new places
            self.assertEqual(codes_around(inner), (parent(code, 0),))
            for word in (1, 3, 5, 7):
                within = Code(code.length, (word,))
                self.assertEqual(count_around(within), count_with(code.length, word))

    def test_clear_codes(self):
        for length in range(2, 18, 2):
            for bound in range(2, length + 1, 2):
                if does_clear(length, bound):
                    for code in some(198, (length,), 1) + [plain(length)]:
                        answer, steps = clearing(code, bound)
                        self.assertEqual((answer, lighter(steps[-1], bound)), ("clear", 0))

    def test_alike_just_if_their_light_words_are(self):
        for one, other in itertools.product(SIXTEEN, repeat=2):
            self.assertIs(are_alike_by_fours(one, other), one == other)
        self.assertEqual(len({counts_of(code) for code in SIXTEEN}), 6)


class SideBySide(unittest.TestCase):
    """Counts of codes side by side, and of their shadows."""

    CODES = [PAIR, plain(4), Code(4, (5, 10)), plain(6), PLAIN, EIGHT, told(8)[40][1], STRIP]

    def test_counts_and_shadows(self):
        for one, other in itertools.product(self.CODES, repeat=2):
            whole = side_by_side((one, other))
            self.assertIs(is_own(whole), True)
            self.assertEqual(counts_of(whole), times(counts_of(one), counts_of(other)))
            self.assertEqual(shadow_counts(whole), times(shadow_counts(one), shadow_counts(other)))
            self.assertEqual(counts_or_weight(whole.length, parts_of(whole)), ("counts", shadow_counts(whole)))
            self.assertIs(is_by_fours(whole), is_by_fours(one) and is_by_fours(other))
            self.assertEqual(shadow_counts(whole), coset_counts(whole, least_shadow(whole)))
            self.assertEqual(least_shadow(whole), least_shadow(one) + least_shadow(other) * 2 ** one.length)

    def test_shadow_and_code_make_the_dual_of_the_half(self):
        for code in self.CODES + [SEVENS] + list(SIXTEEN):
            row, shade = counts_of(code), shadow_counts(code)
            if is_by_fours(code):
                self.assertEqual((half(code), shade), (code, row))
                continue
            self.assertEqual(tuple(a + b for a, b in zip(row, shade)), dual_counts(half(code)))
            least = quarters(code)
            self.assertEqual([word in naive.sums(code.basis) for word in least], [True, False, True, False])
            if code.length <= 16:
                self.assertEqual(set(shadow(code)) | naive.sums(code.basis), naive.sums(dual(half(code)).basis))

    def test_by_fours_beside(self):
        for code in (PLAIN, told(8)[3][1], plain(14), SEVENS, SIXTEEN[2], SIXTEEN[3], plain(24)):
            pair = raised(code)
            self.assertEqual([is_by_fours(one) for one in pair], [True, True])
            self.assertIs(are_one_family(*pair), False)
            self.assertEqual(distance(*pair), 1)

    def test_no_code_is_by_fours_at_other_lengths(self):
        for length in range(2, 26, 2):
            self.assertIs(count_by_fours(length) > 0, length % 8 == 0)
            if length < 9:
                self.assertEqual(len([code for code in codes(length) if is_by_fours(code)]), count_by_fours(length))
        self.assertIs(is_by_fours(GOLAY), True)


if __name__ == "__main__":
    unittest.main()
