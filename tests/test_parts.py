"""[7.1] to [7.6]: gaps, what falls apart, ties, unsplit parts and sums, held against a look at all words."""

import functools
import itertools
import math
import random
import unittest

from ownchecks.code.codes import Code, is_own, part_on
from ownchecks.errors import InvalidCode, InvalidOperation, TooMany
from ownchecks.near.neighbours import distance, neighbours
from ownchecks.same.exchanges import exchange_or_none, exchanged, order_of
from ownchecks.same.parts import gap_at, is_split_or_word, is_unsplit, side_by_side, split_or_word, summed_at, ties
from ownchecks.same.parts import unsplit_lots, unsplit_parts
from ownchecks.weigh.counts import counts_of, least_weight
from tests import naive
from tests.kinds import EIGHT, GOLAY, LISTS, MIXED, PAIR, PLAIN, SEVENS, SIXTEEN, STRIP, beside, mixed_up, plain, some
from tests.kinds import told
from tests.naive import mask, partitions, rest_of, times

LENGTHS = (2, 4, 6, 8)
LONGER = tuple(some(71, range(10, 26, 2), 3)) + SIXTEEN + LISTS[14] + LISTS[12] + (GOLAY, plain(24))


def parted(span, lot):
    """The words that leave the code when all ones beside the lot are left out."""
    return {word for word in span if word & mask(lot) not in span}


@functools.lru_cache(None)
def own_part(many, words):
    return naive.is_own(many, words)


@functools.lru_cache(None)
def told_by_words(length, span):
    """The least lots along which nothing is parted, one for each place, and the ones of unlike places once."""
    whole = [lot for lot in naive.lots(length) if not parted(span, lot)]
    return tuple(sorted({min((lot for lot in whole if place in lot), key=len) for place in range(length)}))


class Gaps(unittest.TestCase):
    def test_places_less_twice_the_dimension(self):
        for length in LENGTHS:
            for span, code in told(length):
                for lot in naive.lots(length):
                    within = naive.part(length, span, lot)
                    gap = gap_at(code, lot)
                    self.assertIs(type(gap), int)
                    self.assertEqual(gap, len(lot) - 2 * naive.dimension(within))
                    self.assertGreaterEqual(gap, 0)
                    self.assertIs(gap == 0, own_part(len(lot), within))

    def test_the_rest_has_the_same_gap(self):
        source = random.Random(72)
        for length in LENGTHS:
            for _, code in told(length):
                for lot in naive.lots(length):
                    # each lot and its rest once
                    if lot[0] == 0 and len(lot) < length:
                        self.assertEqual(gap_at(code, lot), gap_at(code, rest_of(length, lot)))
        for code in LONGER:
            for _ in range(20):
                lot = tuple(sorted(source.sample(range(code.length), source.randrange(1, code.length))))
                gap = gap_at(code, lot)
                self.assertEqual(gap, gap_at(code, rest_of(code.length, lot)))
                self.assertEqual(gap, len(lot) - 2 * part_on(code, lot).dimension)

    def test_edges(self):
        for code in (PAIR, PLAIN, EIGHT, STRIP, GOLAY):
            self.assertEqual(gap_at(code, tuple(range(code.length))), 0)
            for place in range(code.length):
                self.assertEqual(gap_at(code, (place,)), 1)
                self.assertEqual(gap_at(code, rest_of(code.length, (place,))), 1)
        self.assertEqual([gap_at(GOLAY, tuple(range(12))), gap_at(GOLAY, tuple(range(8)))], [8, 6])
        self.assertEqual([gap_at(plain(24), tuple(range(0, 24, 2))), gap_at(plain(24), tuple(range(12)))], [12, 0])


class SplitOrWord(unittest.TestCase):
    def test_one_of_both_and_never_both(self):
        for length in LENGTHS:
            for span, code in told(length):
                for lot in naive.lots(length):
                    if len(lot) < length:
                        shows = parted(span, lot)
                        answer = split_or_word(code, lot)
                        self.assertIs(type(answer), tuple)
                        if shows:
                            self.assertEqual(answer[0], "word")
                            self.assertIn(answer[1], shows)
                            self.assertEqual(len(answer), 2)
                        else:
                            self.assertEqual(answer, ("split",))
                            self.assertEqual(gap_at(code, lot), 0)
                        self.assertIs(is_split_or_word(code, lot, answer), True)
                        self.assertIs(is_split_or_word(code, lot, ("split",)), not shows)

    def test_all_words_are_judged(self):
        for length in LENGTHS:
            for span, code in told(length)[::1 if length < 8 else 20]:
                for lot in list(naive.lots(length))[:-1:1 if length < 8 else 5]:
                    shows = parted(span, lot)
                    for word in range(-1, 2 ** length + 1):
                        self.assertIs(is_split_or_word(code, lot, ("word", word)), word in shows)

    def test_longer_codes(self):
        source = random.Random(73)
        for code in LONGER:
            exchange = mixed_up(code.length, source)
            words = naive.sums(code.basis)
            for lot in (tuple(range(2)), tuple(range(8)), tuple(range(code.length - 2)),
                        tuple(sorted(exchange[:code.length // 2]))):
                if len(lot) == code.length:
                    continue
                shows = parted(words, lot)
                answer = split_or_word(code, lot)
                self.assertIs(answer == ("split",), not shows)
                self.assertTrue(not shows or answer[1] in shows)
                self.assertIs(is_split_or_word(code, lot, answer), True)
                for word in source.sample(sorted(words), 4):
                    self.assertIs(is_split_or_word(code, lot, ("word", word)), word in shows)

    def test_no_other_value_is_right(self):
        for value in (None, True, 0, "split", "word", (), ("split", 0), ("split", ()), ["split"], ("Split",), ("word",),
                      ("word", 150, 150), ("word", None), ("word", True), ("word", "150"), ("word", (150,)),
                      ("word", 256 + 150), ("word", -150), ("word", 10 ** 5000), ["word", 150], ("words", 150),
                      ("split", 150), ("word", EIGHT), (None, 150), (150, "word"), {"word": 150}, ("word", [150])):
            self.assertIs(is_split_or_word(EIGHT, (0, 1), value), False)
            self.assertIs(is_split_or_word(MIXED, (0, 1), value), False)
        self.assertIs(is_split_or_word(EIGHT, (0, 1), ("word", 150)), True)
        self.assertIs(is_split_or_word(MIXED, (0, 1), ("split",)), True)
        # the word 1 is not in the code, and True is no integer
        self.assertIs(is_split_or_word(PAIR, (0,), ("word", 3)), True)
        self.assertIs(is_split_or_word(PAIR, (0,), ("word", 1)), False)

    def test_the_lot_of_all_places_is_refused(self):
        for code in (PAIR, PLAIN, EIGHT, GOLAY):
            lot = tuple(range(code.length))
            with self.assertRaises(InvalidOperation):
                split_or_word(code, lot)
            for value in (("split",), ("word", 0), None):
                with self.assertRaises(InvalidOperation):
                    is_split_or_word(code, lot, value)


class Unsplit(unittest.TestCase):
    def ties_by_heads(self, words):
        tops = [naive.highest(word) for word in words]
        return tuple(sorted((place, top) for top, word in zip(tops, words) for place in range(top) if word >> place & 1))

    def test_ties(self):
        for length in LENGTHS:
            for span, code in told(length):
                answer = ties(code)
                self.assertIs(type(answer), tuple)
                self.assertEqual(answer, self.ties_by_heads(naive.basis(span)))
        for code in LONGER:
            self.assertEqual(ties(code), self.ties_by_heads(code.basis))
        self.assertEqual([ties(PAIR), ties(Code(4, (5, 10)))], [((0, 1),), ((0, 2), (1, 3))])

    def test_lots_and_parts(self):
        for length in LENGTHS:
            for span, code in told(length):
                lots = told_by_words(length, span)
                self.assertEqual(unsplit_lots(code), lots)
                self.assertIs(is_unsplit(code), lots == (tuple(range(length)),))
                parts = unsplit_parts(code)
                self.assertIs(type(parts), tuple)
                self.assertEqual([part.length for part in parts], [len(lot) for lot in lots])
                for lot, part in zip(lots, parts):
                    self.assertEqual(naive.sums(part.basis), naive.part(length, span, lot))
                    self.assertTrue(is_own(part) and is_unsplit(part))
                self.assertEqual(summed_at(lots, parts), code)

    def test_in_one_way_however_the_places_are_exchanged(self):
        for length in (2, 4, 6):
            for _, code in told(length):
                for exchange in itertools.permutations(range(length)):
                    led = sorted(tuple(sorted(exchange[place] for place in lot)) for lot in unsplit_lots(code))
                    self.assertEqual(unsplit_lots(exchanged(code, exchange)), tuple(led))
        source = random.Random(74)
        for code in LONGER + (PLAIN, EIGHT, MIXED) + tuple(code for _, code in told(8)):
            for _ in range(4):
                exchange = mixed_up(code.length, source)
                led = sorted(tuple(sorted(exchange[place] for place in lot)) for lot in unsplit_lots(code))
                self.assertEqual(unsplit_lots(exchanged(code, exchange)), tuple(led))

    def test_known_kinds(self):
        lots = [[len(lot) for lot in unsplit_lots(code)] for code in SIXTEEN]
        self.assertEqual(lots, [[2] * 8, [2] * 4 + [8], [2, 2, 12], [2, 14], [8, 8], [16], [16]])
        self.assertEqual([is_unsplit(code) for code in (PAIR, plain(4), EIGHT, MIXED, STRIP, SEVENS, GOLAY)],
                         [True, False, True, False, True, True, True])
        self.assertEqual(unsplit_lots(plain(24)), tuple((place, place + 1) for place in range(0, 24, 2)))
        self.assertEqual(unsplit_parts(beside(PAIR, EIGHT, STRIP)), (PAIR, EIGHT, STRIP))

    def test_alike_just_if_the_parts_are(self):
        numbers = {}
        for length in LENGTHS:
            for span, _ in told(length):
                kinds = naive.classes(length)
                parts = [naive.part(length, span, lot) for lot in told_by_words(length, span)]
                found = tuple(sorted((len(part), naive.classes(2 * naive.dimension(part))[part]) for part in parts))
                numbers.setdefault((length, kinds[span]), set()).add(found)
        self.assertEqual([len(found) for found in numbers.values()], [1] * 5)
        self.assertEqual(len({tuple(found) for found in numbers.values()}), 5)
        for one, other in itertools.product(SIXTEEN + LISTS[14] + LISTS[12] + LISTS[10], repeat=2):
            alike = one.length == other.length and exchange_or_none(one, other) is not None
            self.assertIs(unsplit_parts(one) == unsplit_parts(other), alike)

    def test_how_many_keep_a_sum(self):
        for code in SIXTEEN + tuple(code for codes in LISTS.values() for code in codes):
            parts = unsplit_parts(code)
            told_order = math.prod(order_of(part) for part in parts)
            for basis in {part.basis for part in parts}:
                told_order *= math.factorial([part.basis for part in parts].count(basis))
            self.assertEqual(order_of(code), told_order)


class SideBySide(unittest.TestCase):
    def test_sums(self):
        codes = [pair for length in (2, 4, 6) for pair in told(length)]
        for (one, code), (other, more) in itertools.product(codes, repeat=2):
            answer = side_by_side((code, more))
            words = {word + 2 ** code.length * then for word in one for then in other}
            self.assertEqual(naive.sums(answer.basis), words)
            self.assertEqual(answer.length, code.length + more.length)
            self.assertEqual(counts_of(answer), times(counts_of(code), counts_of(more)))
        for one, other, third in itertools.product([code for _, code in codes if code.length < 6], repeat=3):
            answer = side_by_side((one, other, third))
            self.assertEqual(answer, side_by_side((side_by_side((one, other)), third)))
            self.assertEqual(answer, beside(one, other, third))

    def test_edges(self):
        for code in (PAIR, EIGHT, GOLAY):
            self.assertEqual(side_by_side((code,)), code)
        self.assertEqual(side_by_side((PAIR,) * 12), plain(24))
        self.assertEqual(side_by_side((STRIP, STRIP)), beside(STRIP, STRIP))
        for codes in ((PAIR,) * 13, (GOLAY, PAIR), (PAIR, GOLAY), (SEVENS, STRIP), (PLAIN,) * 40):
            with self.assertRaises(TooMany) as caught:
                side_by_side(codes)
            self.assertEqual(caught.exception.limit, 24)
        for codes in ((), (PAIR,) * 40 + (None,), (GOLAY, GOLAY, Code(2, ()))):
            with self.assertRaises(InvalidCode):
                side_by_side(codes)

    def test_on_lots(self):
        for length in (2, 4, 6):
            for lots in partitions(tuple(range(length))):
                for seen in itertools.permutations(lots):
                    if any(len(lot) % 2 for lot in seen):
                        continue
                    for pairs in itertools.product(*[told(len(lot))[:4] for lot in seen]):
                        answer = summed_at(seen, tuple(code for _, code in pairs))
                        words = {0}
                        for lot, (span, _) in zip(seen, pairs):
                            led = [sum(2 ** lot[at] for at in range(len(lot)) if word >> at & 1) for word in span]
                            words = {word ^ one for word in words for one in led}
                        self.assertEqual(naive.sums(answer.basis), words)
                        self.assertEqual(answer.length, length)

    def test_counts_and_distances(self):
        source = random.Random(75)
        for _ in range(60):
            lengths = source.choice(((2, 4), (4, 4), (8, 8), (2, 6, 8), (6, 10), (8, 12), (2, 4, 6, 8), (12, 12)))
            exchange = mixed_up(sum(lengths), source)
            lots = tuple(tuple(sorted(exchange[sum(lengths[:at]):sum(lengths[:at + 1])])) for at in range(len(lengths)))
            one, other = some(source.random(), lengths, 1), some(source.random(), lengths, 1)
            sums = [summed_at(lots, tuple(codes)) for codes in (one, other)]
            self.assertIs(is_own(sums[0]), True)
            self.assertEqual(counts_of(sums[0]), functools.reduce(times, [counts_of(code) for code in one]))
            self.assertEqual(distance(*sums), sum(distance(*pair) for pair in zip(one, other)))
            for lot, code in zip(lots, one):
                self.assertEqual(part_on(sums[0], lot), code)
                self.assertIn(split_or_word(sums[0], lot), (("split",),))

    def test_lots_that_do_not_go_together(self):
        for lots in (((0,), (1,)), ((0, 1), (1, 2)), ((0, 1), (0, 1)), ((0, 1), (3, 4)), ((1, 2),), ((0, 1), (2,)), ((),),
                     ((0, 1), ()), ((1, 0),), ((0, 0),), ((0, 1), (3, 2)), ((0, True),), ((False, 1),)):
            with self.assertRaises(InvalidOperation):
                summed_at(lots, (PAIR,) * len(lots))
        for lots, codes in ((((0, 1),), ()), (((0, 1),), (PAIR, PAIR)), (((0, 1), (2, 3)), (PAIR,)),
                            (((0, 1), (2, 3)), (plain(4),)), (((0, 1, 2, 3),), (PAIR,)), (((0, 1, 2),), (plain(4),)),
                            (((0, 1), (2, 3, 4, 5)), (plain(4), PAIR))):
            with self.assertRaises(InvalidOperation):
                summed_at(lots, codes)

    def test_more_places_than_there_can_be(self):
        lots = tuple((place, place + 13) for place in range(13))
        with self.assertRaises(TooMany) as caught:
            summed_at(lots, (PAIR,) * 13)
        self.assertEqual(caught.exception.limit, 24)
        for codes, error in (((PAIR,) * 12, InvalidOperation), ((PAIR,) * 12 + (PLAIN,), InvalidOperation),
                             ((PAIR,) * 12 + (None,), InvalidCode)):
            with self.assertRaises(error):
                summed_at(lots, codes)
        self.assertEqual(summed_at(tuple((place, place + 12) for place in range(12)), (PAIR,) * 12).basis,
                         tuple(2 ** place + 2 ** (place + 12) for place in range(11, -1, -1)))


class Untrue(unittest.TestCase):
    """What [7.6] and [0.20] call untrue."""

    def test_places_that_are_not_tied_can_hang_together(self):
        self.assertIs(is_unsplit(STRIP), True)
        self.assertLess(len(ties(STRIP)), 66)

    def test_a_code_without_words_of_weight_two_can_fall_apart(self):
        code = beside(EIGHT, EIGHT)
        self.assertEqual(least_weight(code), 4)
        self.assertIs(is_unsplit(code), False)
        self.assertEqual(split_or_word(code, tuple(range(8))), ("split",))

    def test_a_neighbour_of_an_unsplit_code_can_fall_apart(self):
        found = [is_unsplit(code) for code in neighbours(EIGHT)]
        self.assertEqual([is_unsplit(EIGHT), found.count(True), found.count(False)], [True, 7, 7])

    def test_tied_places_need_no_word_of_weight_four(self):
        self.assertEqual([ties(PAIR), counts_of(PAIR)], [((0, 1),), (1, 0, 1)])
        self.assertEqual(least_weight(GOLAY), 8)
        self.assertGreater(len(ties(GOLAY)), 0)
        fours = [word for word in naive.sums(SEVENS.basis) if naive.ones(word) == 4]
        self.assertTrue([pair for pair in ties(SEVENS) if not any(word & mask(pair) == mask(pair) for word in fours)])


if __name__ == "__main__":
    unittest.main()
