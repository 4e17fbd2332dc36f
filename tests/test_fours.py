"""[8.1] to [8.7]: pairs, strips, sevens and eights, held against a look at all words."""

import itertools
import math
import random
import unittest

from ownchecks.code.codes import Code, is_own
from ownchecks.errors import InvalidNumber, InvalidOperation, TooMany, UnknownName
from ownchecks.near.every import child
from ownchecks.near.neighbours import neighbour
from ownchecks.same.exchanges import exchange_or_none, exchanged
from ownchecks.same.fours import KINDS, are_alike_by_fours, bare_places, fingerprint, fours_of, is_laying, laying
from ownchecks.same.fours import pairs_of, pattern, told_lots, twins_of
from ownchecks.same.parts import split_or_word
from ownchecks.weigh.counts import counts_of
from tests import naive
from tests.kinds import EIGHT, GOLAY, LISTS, LONG_STRIP, MIXED, PAIR, PLAIN, SEVENS, SIXTEEN, STRIP, TWO_STRIPS, beside
from tests.kinds import mixed_up, plain, some, told

LENGTHS = (2, 4, 6, 8)
KNOWN = tuple(code for codes in LISTS.values() for code in codes) + SIXTEEN
# the lightest words of this neighbour of the code GOLAY have the weight 6
SIXES = neighbour(GOLAY, 2 ** 3 + 2 ** 7 + 2 ** 11 + 2 ** 15 + 2 ** 19 + 2 ** 23)
PATTERNS = [("pair", 2), ("seven", 7), ("eight", 8)] + [("strip", many) for many in range(4, 25, 2)]


def random_codes():
    return some(81, range(8, 26, 2), 6)


def mask(lot):
    return sum(2 ** place for place in lot)


def light(span):
    """Pairs, fours, and the places of each lot of linked fours, by the words of the document."""
    pairs = sorted(word for word in span if naive.ones(word) == 2)
    fours = sorted(word for word in span if naive.ones(word) == 4 and not any(word & pair for pair in pairs))
    lots = []
    for four in fours:
        linked, more = 0, four
        while linked != more:
            linked, more = more, more | naive_or(other for other in fours if other & more)
        lots.append(linked)
    return pairs, fours, sorted(set(lots))


def naive_or(words):
    out = 0
    for word in words:
        out |= word
    return out


def places(word):
    return tuple(place for place in range(24) if word >> place & 1)


def told_by_words(span):
    """The told lots, their kinds by what the document says of each kind."""
    pairs, fours, lots = light(span)
    found = [(places(pair), "pair") for pair in pairs]
    for lot in lots:
        inside = {four for four in fours if four & lot}
        kinds = [kind for kind, right in (("seven", naive.ones(lot) == 7 and len(inside) == 7),
                                          ("eight", naive.ones(lot) == 8 and len(inside) == 14),
                                          ("strip", strip_twins(lot, inside) is not None)) if right]
        assert len(kinds) == 1, (lot, inside)
        found.append((places(lot), kinds[0]))
    return tuple((kind, lot) for lot, kind in sorted(found))


def pairings(lot):
    """All ways to part the places into lots of two."""
    if not lot:
        yield ()
    for other in lot[1:]:
        for more in pairings(tuple(place for place in lot[1:] if place != other)):
            yield ((lot[0], other),) + more


def strip_twins(lot, fours):
    """All ways to tell twins such that the fours are all unions of two; None if there is none."""
    if len(places(lot)) % 2:
        return None
    # on more than eight places twins are told by the sums of fours alone; few places are gone through in full
    every = pairings(places(lot)) if naive.ones(lot) <= 8 else [tuple(sorted({
        tuple(place for place in places(lot) if all(four >> place & 1 for four in fours if four >> one & 1))
        for one in places(lot)}))]
    found = [twins for twins in every if all(len(twin) == 2 for twin in twins)
             and {mask(one + other) for one, other in itertools.combinations(twins, 2)} == fours]
    return found or None


class LightWords(unittest.TestCase):
    def test_pairs_and_fours(self):
        for length in LENGTHS:
            for span, code in told(length):
                pairs, fours, _ = light(span)
                self.assertEqual([pairs_of(code), fours_of(code)], [tuple(pairs), tuple(fours)])
        for code in KNOWN + tuple(random_codes()) + (GOLAY, SIXES, plain(24), plain(22)):
            pairs, fours, _ = light(naive.sums(code.basis))
            self.assertEqual([pairs_of(code), fours_of(code)], [tuple(pairs), tuple(fours)])

    def test_two_of_them(self):
        for code in KNOWN + tuple(random_codes()):
            pairs, fours = pairs_of(code), set(fours_of(code))
            for one, other in itertools.combinations(pairs, 2):
                self.assertEqual(one & other, 0)
            for one, other in itertools.combinations(sorted(fours), 2):
                self.assertIn(naive.ones(one & other), (0, 2))
                self.assertTrue(one & other == 0 or one ^ other in fours)
            for pair in pairs:
                if code.length > 2:
                    self.assertEqual(split_or_word(code, places(pair)), ("split",))

    def test_edges(self):
        self.assertEqual([pairs_of(PAIR), fours_of(PAIR), pairs_of(EIGHT), len(fours_of(EIGHT))], [(3,), (), (), 14])
        # here each word of weight 4 is the sum of two pairs
        self.assertEqual([len(pairs_of(plain(24))), fours_of(plain(24)), counts_of(plain(24))[4]], [12, (), 66])
        for code in (GOLAY, SIXES):
            self.assertEqual([pairs_of(code), fours_of(code), told_lots(code), fingerprint(code)], [(), (), (), ()])
            self.assertEqual(bare_places(code), tuple(range(24)))


class ToldLots(unittest.TestCase):
    def test_all_short_codes(self):
        for length in LENGTHS:
            for span, code in told(length):
                self.assertEqual(told_lots(code), told_by_words(span))

    def test_longer_codes(self):
        source = random.Random(82)
        kinds = set()
        for code in KNOWN + tuple(random_codes()) + (beside(STRIP, STRIP), beside(EIGHT, LONG_STRIP), GOLAY):
            led = exchanged(code, mixed_up(code.length, source))
            for one in (code, led):
                answer = told_lots(one)
                self.assertIs(type(answer), tuple)
                self.assertEqual(answer, told_by_words(naive.sums(one.basis)))
                kinds |= {(kind, len(lot)) for kind, lot in answer}
            self.assertEqual(fingerprint(led), fingerprint(code))
        self.assertLessEqual({("pair", 2), ("seven", 7), ("eight", 8), ("strip", 4), ("strip", 8), ("strip", 12),
                              ("strip", 16)}, kinds)

    def test_numbers_of_fours_and_dimensions(self):
        for code in KNOWN + tuple(random_codes()):
            for kind, lot in told_lots(code):
                inside = [four for four in fours_of(code) if four & mask(lot)]
                many = len(lot)
                wanted = {"pair": (0, 0), "seven": (7, 3), "eight": (14, 4)}
                numbers = wanted.get(kind, (many // 2 * (many // 2 - 1) // 2, many // 2 - 1))
                self.assertEqual((len(inside), naive.dimension(naive.sums(inside))), numbers)
                if kind == "eight" and many < code.length:
                    self.assertEqual(split_or_word(code, lot), ("split",))

    def test_a_strip_and_an_eight_on_eight_places(self):
        self.assertEqual(told_lots(TWO_STRIPS), (("strip", tuple(range(8))), ("strip", tuple(range(8, 16)))))
        self.assertEqual(told_lots(SIXTEEN[4]), (("eight", tuple(range(8))), ("eight", tuple(range(8, 16)))))
        self.assertEqual([len(fours_of(TWO_STRIPS)), len(fours_of(SIXTEEN[4]))], [12, 28])

    def test_lots_have_no_place_in_common_and_the_rest_is_bare(self):
        for code in KNOWN + tuple(random_codes()) + (GOLAY,):
            seen = [place for _, lot in told_lots(code) for place in lot]
            self.assertEqual(len(seen), len(set(seen)))
            self.assertEqual(bare_places(code), tuple(place for place in range(code.length) if place not in seen))
            covered = naive_or(pairs_of(code) + fours_of(code))
            self.assertEqual(bare_places(code), tuple(place for place in range(code.length) if not covered >> place & 1))
            self.assertTrue(code.length > 16 or bare_places(code) == ())
        self.assertTrue([code for code in random_codes() if 0 < len(bare_places(code)) < code.length])

    def test_fingerprints(self):
        for length in (2, 4, 6):
            for _, code in told(length):
                for exchange in itertools.permutations(range(length)):
                    self.assertEqual(fingerprint(exchanged(code, exchange)), (("pair", 2),) * (length // 2))
        for code in KNOWN + tuple(random_codes()):
            told_pairs = tuple(sorted((kind, len(lot)) for kind, lot in told_lots(code)))
            self.assertEqual(fingerprint(code), told_pairs)
        self.assertEqual([fingerprint(code) for code in SIXTEEN],
                         [(("pair", 2),) * 8, (("eight", 8),) + (("pair", 2),) * 4,
                          (("pair", 2), ("pair", 2), ("strip", 12)), (("pair", 2), ("seven", 7), ("seven", 7)),
                          (("eight", 8), ("eight", 8)), (("strip", 16),), (("strip", 8), ("strip", 8))])


class Twins(unittest.TestCase):
    def test_unions_of_two(self):
        source = random.Random(83)
        seen = set()
        for code in (STRIP, LONG_STRIP, TWO_STRIPS, beside(STRIP, STRIP), SIXTEEN[2]) + tuple(random_codes()):
            led = exchanged(code, mixed_up(code.length, source))
            for kind, lot in told_lots(led):
                if kind == "strip" and len(lot) > 4:
                    twins = twins_of(led, lot)
                    self.assertEqual(sorted(place for twin in twins for place in twin), list(lot))
                    self.assertEqual(twins, tuple(sorted(twins)))
                    unions = {mask(one + other) for one, other in itertools.combinations(twins, 2)}
                    self.assertEqual(unions, {four for four in fours_of(led) if four & mask(lot)})
                    seen.add(len(twins))
        self.assertLessEqual({4, 6, 8}, seen)

    def test_other_lots_are_refused(self):
        lot = tuple(range(12))
        self.assertEqual(twins_of(STRIP, lot), tuple((place, place + 1) for place in range(0, 12, 2)))
        four = next((code, lot) for code in random_codes() for kind, lot in told_lots(code)
                    if (kind, len(lot)) == ("strip", 4))
        for code, wrong in ((STRIP, lot[:11]), (STRIP, lot[:4]), (STRIP, ()), (STRIP, lot[::-1]), (STRIP, list(lot)),
                            (STRIP, lot + (12,)), (STRIP, (False, True) + lot[2:]), (STRIP, None), (STRIP, 12),
                            (PAIR, (0, 1)), (EIGHT, tuple(range(8))), (SEVENS, tuple(range(7))), (MIXED, (0, 1)),
                            (TWO_STRIPS, tuple(range(16))), (GOLAY, lot), four):
            with self.assertRaises(InvalidOperation):
                twins_of(code, wrong)


class Patterns(unittest.TestCase):
    def test_words(self):
        self.assertEqual(pattern("pair", 2), Code(2, (3,)))
        self.assertEqual(pattern("seven", 7), Code(7, (15, 51, 85)))
        self.assertEqual(pattern("eight", 8), Code(8, (15, 51, 85, 150)))
        for many in range(4, 25, 2):
            words = {mask(lot) for lot in naive_even_unions(many)}
            self.assertEqual(naive.sums(pattern("strip", many).basis), words)
        self.assertEqual(pattern("strip", 4), Code(4, (15,)))
        self.assertEqual([is_own(pattern(kind, many)) for kind, many in PATTERNS[:5]], [True, False, True, False, False])

    def test_other_numbers(self):
        right = set(PATTERNS)
        for kind in KINDS:
            for many in list(range(-2, 30)) + [True, False, None, "8", (8,), 10 ** 59, -8, 10 ** 60]:
                if type(many) is int and (kind, many) in right:
                    self.assertEqual(pattern(kind, many).length, many)
                else:
                    with self.assertRaises(InvalidNumber) as caught:
                        pattern(kind, many)
                    self.assertIs(caught.exception.given, many)

    def test_other_kinds(self):
        for kind in ("nine", "", "Pair", "pair ", "strips", None, True, 0, 2, (), ("pair",), ["pair"], {}, KINDS, PAIR):
            for many in (2, 4, 7, 8, 9, None):
                with self.assertRaises(UnknownName) as caught:
                    pattern(kind, many)
                self.assertIs(caught.exception.wanted, kind)


def naive_even_unions(many):
    twins = [(place, place + 1) for place in range(0, many, 2)]
    for some_many in range(0, len(twins) + 1, 2):
        for chosen in itertools.combinations(twins, some_many):
            yield [place for twin in chosen for place in twin]


class Layings(unittest.TestCase):
    def is_right(self, code, kind, lot, value):
        words = [word for word in pairs_of(code) + fours_of(code) if word & mask(lot)]
        basis = pattern(kind, len(lot)).basis
        led = [sum(2 ** value[at] for at in range(len(lot)) if word >> at & 1) for word in basis]
        return sorted(value) == list(lot) and naive.sums(led) == naive.sums(words)

    def test_each_told_lot_has_one(self):
        source = random.Random(84)
        kinds = set()
        for code in KNOWN + tuple(random_codes()):
            led = exchanged(code, mixed_up(code.length, source))
            for kind, lot in told_lots(led):
                answer = laying(led, lot)
                self.assertIs(type(answer), tuple)
                self.assertTrue(self.is_right(led, kind, lot, answer))
                self.assertIs(is_laying(led, lot, answer), True)
                kinds.add(kind)
                for _ in range(3):
                    other = tuple(source.sample(lot, len(lot)))
                    self.assertIs(is_laying(led, lot, other), self.is_right(led, kind, lot, other))
        self.assertEqual(kinds, set(KINDS))

    def test_all_sequences_are_judged(self):
        short = next((code, lot) for code in random_codes() for kind, lot in told_lots(code)
                     if (kind, len(lot)) == ("strip", 4))
        for (code, lot), many in (((MIXED, (0, 1)), 2), (short, 24), ((SEVENS, tuple(range(7, 14))), 168)):
            kind = dict((lot, kind) for kind, lot in told_lots(code))[lot]
            right = 0
            for value in itertools.permutations(lot):
                expected = self.is_right(code, kind, lot, value)
                self.assertIs(is_laying(code, lot, value), expected)
                right += expected
            self.assertEqual(right, many)
        lot = tuple(range(8))
        for code, kind in ((EIGHT, "eight"), (TWO_STRIPS, "strip")):
            for value in itertools.islice(itertools.permutations(lot), 0, 5040, 7):
                self.assertIs(is_laying(code, lot, value), self.is_right(code, kind, lot, value))

    def test_how_many_keep_a_told_lot(self):
        # twins, and the places of a twin, can be told in any sequence
        lot = tuple(range(8))
        right = sum(is_laying(TWO_STRIPS, lot, tuple(place for twin in twins for place in twin))
                    for order in itertools.permutations(((0, 1), (2, 3), (4, 5), (6, 7)))
                    for twins in itertools.product(*[(twin, twin[::-1]) for twin in order]))
        self.assertEqual(right, math.factorial(4) * 2 ** 4)

    def test_no_other_value_is_right(self):
        lot = tuple(range(8))
        for value in (None, True, 0, "", "01234567", (), [], list(lot), lot[:7], lot + (8,), lot[:7] + (8,), (0,) * 8,
                      lot[:7] + (6,), (False, True) + lot[2:], (None,) * 8, lot[:7] + (10 ** 5000,), (lot,), {0: 1},
                      ("laying", lot), lot[:7] + ("7",), lot[:7] + ((7,),), lot[:7] + ([7],), EIGHT, 5000 * (0,)):
            self.assertIs(is_laying(EIGHT, lot, value), False)
        self.assertIs(is_laying(EIGHT, lot, lot), True)
        self.assertIs(is_laying(PAIR, (0, 1), (False, True)), False)
        self.assertIs(is_laying(PAIR, (0, 1), (1, 0)), True)

    def test_other_lots_are_refused(self):
        for code, lot in ((EIGHT, (0, 1)), (EIGHT, tuple(range(7))), (EIGHT, ()), (EIGHT, tuple(range(9))), (PAIR, (0,)),
                          (MIXED, tuple(range(10))), (MIXED, (0, 2)), (EIGHT, list(range(8))), (PLAIN, (0, 1, 2, 3)),
                          (PAIR, (1, 0)), (PAIR, (False, True)), (PAIR, None), (GOLAY, tuple(range(24))),
                          (GOLAY, tuple(range(8))), (SEVENS, tuple(range(14))), (PAIR, 3), (PAIR, ((0, 1),))):
            with self.assertRaises(InvalidOperation):
                laying(code, lot)
            with self.assertRaises(InvalidOperation):
                is_laying(code, lot, lot)


class Alike(unittest.TestCase):
    def test_all_short_codes(self):
        for length in LENGTHS:
            numbers = naive.classes(length)
            for (one, code), (other, more) in itertools.product(told(length)[::3], told(length)):
                self.assertIs(are_alike_by_fours(code, more), numbers[one] == numbers[other])

    def test_just_as_an_exchange_is_found(self):
        source = random.Random(85)
        for length in (10, 12, 14, 16):
            known = SIXTEEN if length == 16 else LISTS[length]
            self.assertEqual(len({fingerprint(code) for code in known}), len(known))
            for one, other in itertools.product(known, repeat=2):
                led = exchanged(other, mixed_up(length, source))
                self.assertIs(are_alike_by_fours(one, led), one == other)
            for one, other in itertools.combinations(some(86, (length,), 7), 2):
                self.assertIs(are_alike_by_fours(one, other), exchange_or_none(one, other) is not None)

    def test_lengths(self):
        self.assertIs(are_alike_by_fours(PAIR, PAIR), True)
        self.assertIs(are_alike_by_fours(SIXTEEN[5], SIXTEEN[6]), False)
        for length in (18, 20, 22, 24):
            with self.assertRaises(TooMany) as caught:
                are_alike_by_fours(plain(length), plain(length))
            self.assertEqual(caught.exception.limit, 16)


class Untrue(unittest.TestCase):
    """What [8.7] and [0.20] call untrue."""

    def test_the_twins_of_a_strip_on_four_places(self):
        code, lot = next((code, lot) for code in random_codes() for kind, lot in told_lots(code)
                         if (kind, len(lot)) == ("strip", 4))
        self.assertEqual(len(strip_twins(mask(lot), {mask(lot)})), 3)
        for value in itertools.permutations(lot):
            self.assertIs(is_laying(code, lot, value), True)
        with self.assertRaises(InvalidOperation):
            twins_of(code, lot)

    def test_a_word_with_ones_at_bare_places_alone(self):
        code = beside(PAIR, child(GOLAY, 0, 1))
        self.assertEqual([is_own(code), told_lots(code)], [True, (("pair", (0, 1)),)])
        word = 2 ** 24 - 4
        self.assertEqual(bare_places(code), tuple(range(2, 24)))
        self.assertIn(word, naive.sums(code.basis))

    def test_equal_fingerprints_and_not_alike(self):
        self.assertEqual([fingerprint(GOLAY), fingerprint(SIXES)], [(), ()])
        self.assertNotEqual(counts_of(GOLAY), counts_of(SIXES))
        self.assertEqual([is_own(SIXES), counts_of(SIXES)[6], counts_of(GOLAY)[6]], [True, 64, 0])

    def test_fours_that_do_not_meet_can_be_linked(self):
        self.assertEqual([15 & 240, set(fours_of(STRIP)) >= {15, 240}], [0, True])
        self.assertEqual(told_lots(STRIP), (("strip", tuple(range(12))),))


if __name__ == "__main__":
    unittest.main()
