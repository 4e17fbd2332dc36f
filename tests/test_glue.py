"""[15.1] to [15.5]: parts' spans, glue, mates, and words put together, held against a look at all words."""

import itertools
import random
import unittest

from ownchecks.code.codes import Code
from ownchecks.errors import InvalidOperation, Refused
from ownchecks.same.exchanges import exchanged
from ownchecks.same.glue import glue, glue_dimension, is_mate_or_odd, is_put_together, least_mate, mate_or_odd
from ownchecks.same.glue import parted_word, parts_span, put_together
from ownchecks.same.parts import gap_at, split_or_word
from tests import naive
from tests.kinds import EIGHT, GOLAY, MIXED, PAIR, PLAIN, SEVENS, SIXTEEN, STRIP, beside, mixed_up, plain, some, told
from tests.naive import mask, partitions, rest_of

LENGTHS = (2, 4, 6, 8)
LONGER = tuple(some(151, range(10, 26, 2), 2)) + SIXTEEN[2:6] + (MIXED, STRIP, SEVENS, plain(24))


def parted(length):
    """All ways to part the places into two lots or more."""
    return [lots for lots in partitions(tuple(range(length))) if len(lots) > 1]


def within(span, lot):
    return frozenset(word for word in span if word & mask(lot) == word)


def least_sums(span, words):
    """The remainders, each one a least sum."""
    return frozenset(min(word ^ one for one in span) for word in words)


def parted_cases():
    """Triples of a span, its code, and lots: short lengths in full, and two lots of the length 8, and some more."""
    source = random.Random(152)
    for length in (2, 4, 6):
        for (span, code), lots in itertools.product(told(length), parted(length)):
            yield span, code, lots
    halves = [lots for lots in parted(8) if len(lots) == 2]
    more = parted(8)
    for span, code in told(8):
        for lots in source.sample(halves, 6) + source.sample(more, 6):
            yield span, code, lots
    for code, lots in itertools.product((PLAIN, EIGHT), more[::40]):
        yield naive.sums(code.basis), code, lots


class Glue(unittest.TestCase):
    def test_spans_and_glue_by_a_look_at_all_words(self):
        for span, code, lots in parted_cases():
            parts = naive.sums([word for lot in lots for word in within(span, lot)])
            self.assertEqual(parts_span(code, lots), naive.basis(parts))
            glued = least_sums(parts, span)
            self.assertEqual(naive.sums(glue(code, lots)), glued)
            self.assertEqual(glue(code, lots), naive.basis(glued))
            self.assertEqual(glue_dimension(code, lots), naive.dimension(glued))
            self.assertIs(type(glue(code, lots)), tuple)
            self.assertIs(type(parts_span(code, lots)), tuple)

    def test_each_word_in_one_way(self):
        for span, code, lots in itertools.islice(parted_cases(), 0, None, 4):
            parts, glued = naive.sums(parts_span(code, lots)), naive.sums(glue(code, lots))
            ways = {}
            for part, rest in itertools.product(parts, glued):
                ways.setdefault(part ^ rest, []).append((part, rest))
            self.assertEqual(set(ways), span)
            for word in span:
                self.assertEqual([parted_word(code, lots, word)], ways[word])

    def test_dimensions(self):
        for span, code, lots in parted_cases():
            parts = [naive.dimension(within(span, lot)) for lot in lots]
            self.assertEqual(glue_dimension(code, lots), code.length // 2 - sum(parts))
            whole = naive.sums([word for lot in lots for word in within(span, lot)])
            self.assertIs(glue_dimension(code, lots) == 0, whole == span)

    def test_of_two_lots_it_is_the_gap(self):
        for length in LENGTHS:
            for _, code in told(length)[::1 if length < 8 else 5]:
                for lot in naive.lots(length):
                    if len(lot) < length:
                        rest = rest_of(length, lot)
                        dimension = glue_dimension(code, (lot, rest))
                        self.assertEqual([dimension] * 2, [gap_at(code, lot), gap_at(code, rest)])
                        self.assertEqual(glue_dimension(code, (rest, lot)), dimension)
                        self.assertIs(dimension == 0, split_or_word(code, lot) == ("split",))

    def test_the_sequence_of_the_lots_is_free(self):
        for code, lots in ((EIGHT, ((4, 5), (0, 7), (1, 2, 3, 6))), (PLAIN, ((7,), (0, 1, 2), (3, 4, 5, 6)))):
            for seen in itertools.permutations(lots):
                self.assertEqual(glue(code, seen), glue(code, lots))
                self.assertEqual(parts_span(code, seen), parts_span(code, lots))
                self.assertEqual(parted_word(code, seen, 255), parted_word(code, lots, 255))

    def test_longer_codes(self):
        source = random.Random(153)
        for code in LONGER:
            span = naive.sums(code.basis)
            for many in (2, 3, 5, code.length):
                places = mixed_up(code.length, source)
                lots = tuple(tuple(sorted(places[at::many])) for at in range(many))
                parts = naive.sums([word for lot in lots for word in within(span, lot)])
                glued = frozenset(min(word ^ one for one in parts) for word in code.basis)
                self.assertEqual(naive.sums(parts_span(code, lots)), parts)
                self.assertEqual(naive.sums(glue(code, lots)), naive.sums(glued))
                for word in source.sample(sorted(span), 5):
                    part, rest = parted_word(code, lots, word)
                    self.assertEqual(part ^ rest, word)
                    self.assertIn(part, parts)
                    self.assertEqual(rest, min(word ^ one for one in parts))

    def test_edges(self):
        for code in (PAIR, PLAIN, EIGHT, plain(24), GOLAY):
            single = tuple((place,) for place in range(code.length))
            self.assertEqual((parts_span(code, single), glue(code, single)), ((), code.basis))
            self.assertEqual(glue_dimension(code, single), code.length // 2)
            self.assertEqual(parted_word(code, single, code.basis[0]), (0, code.basis[0]))
        pairs = tuple((place, place + 1) for place in range(0, 24, 2))
        self.assertEqual((parts_span(plain(24), pairs), glue(plain(24), pairs)), (plain(24).basis, ()))
        self.assertEqual(parted_word(plain(24), pairs, 15), (15, 0))
        self.assertEqual(parted_word(plain(24), pairs, 0), (0, 0))

    def test_only_words_of_the_code_are_parted(self):
        lots = ((0, 1, 2), (3,))
        for span, code in told(4):
            for word in range(16):
                if word not in span:
                    with self.assertRaises(InvalidOperation):
                        parted_word(code, lots, word)


class Mates(unittest.TestCase):
    def words_within(self, lot):
        return sorted(naive.sums([2 ** place for place in lot]))

    def mates(self, span, length, lot, word):
        return {word ^ one for one in span if one & mask(lot) == word}

    def odds(self, span, lot, word):
        return {one for one in within(span, lot) if not naive.even(one, word)}

    def check(self, span, code, lot, word):
        """Both sets by a look at all words, and all answers held against them."""
        mates, odds = self.mates(span, code.length, lot, word), self.odds(span, lot, word)
        self.assertNotEqual(bool(mates), bool(odds))
        answer = mate_or_odd(code, lot, word)
        self.assertEqual(len(answer), 2)
        self.assertIs(type(answer), tuple)
        self.assertIn(answer[1], mates if answer[0] == "mate" else odds)
        self.assertEqual(answer[0], "mate" if mates else "odd")
        self.assertIs(is_mate_or_odd(code, lot, word, answer), True)
        if mates:
            self.assertEqual(least_mate(code, lot, word), min(mates))
        else:
            with self.assertRaises(Refused) as caught:
                least_mate(code, lot, word)
            kind, part = caught.exception.reason
            self.assertEqual(kind, "odd")
            self.assertIn(part, odds)
        return mates, odds

    def test_a_mate_or_an_odd_product_never_both(self):
        for length in LENGTHS:
            for span, code in told(length)[::1 if length < 8 else 27]:
                for lot in naive.lots(length):
                    if len(lot) < length:
                        for word in self.words_within(lot)[::1 if length < 8 else 3]:
                            self.check(span, code, lot, word)

    def test_all_words_are_judged(self):
        for length in LENGTHS:
            for span, code in told(length)[::{2: 1, 4: 1, 6: 8, 8: 120}[length]]:
                for lot in list(naive.lots(length))[:-1:1 if length < 8 else 23]:
                    for word in self.words_within(lot)[::1 if length < 8 else 5]:
                        mates, odds = self.check(span, code, lot, word)
                        for other in range(-1, 2 ** length + 1):
                            self.assertIs(is_mate_or_odd(code, lot, word, ("mate", other)), other in mates)
                            self.assertIs(is_mate_or_odd(code, lot, word, ("odd", other)), other in odds)

    def test_classes_are_led_one_to_one(self):
        for length in (2, 4, 6):
            for span, code in told(length):
                for lot in list(naive.lots(length))[:-1]:
                    rest = rest_of(length, lot)
                    here, there = within(span, lot), within(span, rest)
                    trace = sorted({word & mask(lot) for word in span})
                    images = {word: least_mate(code, lot, word) for word in trace}
                    for one, other in itertools.product(trace, repeat=2):
                        self.assertIs(images[one] == images[other], one ^ other in here)
                        self.assertIs(naive.even(one, other), naive.even(images[one], images[other]))
                        # sums of mates are mates of sums, up to words of the part there
                        self.assertIn(images[one] ^ images[other] ^ images[one ^ other], there)
                        self.assertEqual(naive.ones(one) % 2, naive.ones(images[one]) % 2)
                    self.assertEqual(len(set(images.values())) * len(there), len({word & mask(rest) for word in span}))

    def test_longer_codes(self):
        source = random.Random(154)
        for code in LONGER + (GOLAY,):
            span = naive.sums(code.basis)
            for many in (1, 2, code.length // 2, code.length - 1):
                lot = tuple(sorted(source.sample(range(code.length), many)))
                for word in (0, mask(lot), source.choice(sorted(span)) & mask(lot), 2 ** source.choice(lot)):
                    mates, odds = self.check(span, code, lot, word)
                    for other in source.sample(range(2 ** code.length), 5):
                        self.assertIs(is_mate_or_odd(code, lot, word, ("mate", other)), other in mates)
                        self.assertIs(is_mate_or_odd(code, lot, word, ("odd", other)), other in odds)

    def test_no_other_value_is_right(self):
        lot = (0, 1, 2, 3)
        for value in (None, True, 0, "mate", (), ("mate",), ["mate", 240], ("Mate", 240), ("mate", 240, 240), ("mate", None),
                      ("mate", "240"), ("mate", (240,)), ("mate", 240 + 256), ("mate", -16), ("odd", 240), ("odd", 15),
                      ("mate", 15), ("mate", True), (None, 240), (240, "mate"), {"mate": 240}, ("mate", EIGHT),
                      ("mate", 10 ** 5000), ("odd", -10 ** 5000), (EIGHT, 240), (("mate",), 240)):
            self.assertIs(is_mate_or_odd(EIGHT, lot, 15, value), False)
        for other in (240, 0):
            self.assertIs(is_mate_or_odd(EIGHT, lot, 15, ("mate", other)), True)
        self.assertIs(is_mate_or_odd(EIGHT, lot, 1, ("odd", 15)), True)
        for kind in ("Odd", "odd ", "", "own", None, 15, ("odd",)):
            self.assertIs(is_mate_or_odd(EIGHT, lot, 1, (kind, 15)), False)
        # 1 is a mate here, and True is no integer
        self.assertIs(is_mate_or_odd(PAIR, (1,), 2, ("mate", 1)), True)
        self.assertIs(is_mate_or_odd(PAIR, (1,), 2, ("mate", True)), False)
        self.assertIs(is_mate_or_odd(PAIR, (1,), 0, ("mate", False)), False)

    def test_words_beside_the_lot_are_refused(self):
        for call, more in ((mate_or_odd, ()), (least_mate, ()), (is_mate_or_odd, (("mate", 0),))):
            for lot, word in (((0, 1, 2), 8), ((0, 1, 2), 15), ((1,), 1), ((7,), 127), ((0, 1, 2, 3, 4, 5, 6), 255)):
                with self.assertRaises(InvalidOperation):
                    call(EIGHT, lot, word, *more)
            with self.assertRaises(InvalidOperation):
                call(EIGHT, tuple(range(8)), 15, *more)


class PutTogether(unittest.TestCase):
    def odd_pairs(self, words):
        return {(one, other) for one, other in itertools.product(words, repeat=2) if not naive.even(one, other)}

    def check(self, length, lots, inside, glued):
        """What the words show, by all their products and sums; the answer, and some wrong ones, held against it."""
        answer = put_together(length, lots, inside, glued)
        self.assertIs(type(answer), tuple)
        self.assertIs(is_put_together(length, lots, inside, glued, answer), True)
        pairs = self.odd_pairs(inside + glued)
        span = naive.sums(inside + glued)
        if pairs:
            self.assertEqual((answer[0], len(answer)), ("odd", 3))
            self.assertIn(answer[1:], pairs)
        elif naive.dimension(span) < length // 2:
            self.assertEqual(answer, ("few", naive.dimension(span)))
            self.assertIs(type(answer[1]), int)
        else:
            self.assertEqual((answer[0], len(answer)), ("own", 2))
            self.assertEqual(naive.sums(answer[1].basis), span)
            self.assertEqual(answer[1].length, length)
        for few in range(-1, length + 1):
            right = not pairs and few == naive.dimension(span) < length // 2
            self.assertIs(is_put_together(length, lots, inside, glued, ("few", few)), right)
        return answer, pairs, span

    def test_own_odd_or_few_never_two(self):
        found = set()
        for length, lots in ((2, ((0,), (1,))), (2, ((1,), (0,))), (4, ((0, 1), (2, 3))), (4, ((0, 2, 3), (1,)))):
            words = range(2 ** length)
            inside = sorted({word for lot in lots for word in naive.sums([2 ** place for place in lot])})
            for first, then in itertools.product(range(3), range(3)):
                if length == 4 and first + then > 3:
                    continue
                for some_words in itertools.combinations(inside, first):
                    for others in itertools.combinations(words, then):
                        answer, pairs, span = self.check(length, lots, some_words, others)
                        found.add(answer[0])
                        own = naive.is_own(length, span)
                        self.assertEqual([bool(pairs), own].count(True) == 0, answer[0] == "few")
                        for _, code in told(length):
                            right = own and naive.sums(code.basis) == span
                            value = ("own", code)
                            self.assertIs(is_put_together(length, lots, some_words, others, value), right)
        self.assertEqual(found, {"own", "odd", "few"})

    def test_all_pairs_are_judged(self):
        lots = ((0, 1), (2, 3))
        for inside, glued in (((3,), (12,)), ((1, 3), (5,)), ((), (15, 6, 7)), ((0, 8), (1, 2)), ((), ())):
            pairs = self.odd_pairs(inside + glued)
            for one, other in itertools.product(range(-1, 17), repeat=2):
                right = (one, other) in pairs
                self.assertIs(is_put_together(4, lots, inside, glued, ("odd", one, other)), right)

    def test_codes_are_put_together_from_parts_and_glue(self):
        for _, code, lots in itertools.islice(parted_cases(), 0, None, 2):
            inside, glued = parts_span(code, lots), glue(code, lots)
            self.assertEqual(put_together(code.length, lots, self.single(inside, code, lots), glued), ("own", code))

    def single(self, words, code, lots):
        """Words within one lot each that span the same."""
        span = naive.sums(words)
        return tuple(word for lot in lots for word in naive.basis(within(span, lot)))

    def test_longer_ones(self):
        source = random.Random(155)
        for code in LONGER + (GOLAY,):
            places = mixed_up(code.length, source)
            lots = tuple(tuple(sorted(places[at::3])) for at in range(3))
            inside = self.single(parts_span(code, lots), code, lots)
            glued = glue(code, lots)
            self.assertEqual(put_together(code.length, lots, inside, glued), ("own", code))
            self.assertEqual(put_together(code.length, lots, inside, glued[1:]), ("few", code.length // 2 - 1))
            word = next(word for word in range(1, 200) if word not in naive.sums(code.basis))
            answer = put_together(code.length, lots, inside, glued + (word,))
            self.assertEqual(answer[0], "odd")
            self.assertIn(word, answer[1:])
            self.assertFalse(naive.even(answer[1], answer[2]))

    def test_many_words(self):
        lots = ((0, 1), (2, 3))
        self.assertEqual(put_together(4, lots, (3,) * 64, (12,) * 64), ("own", plain(4)))
        self.assertEqual(put_together(4, lots, (0,) * 64, (0,) * 64), ("few", 0))
        for inside, glued in (((3,) * 65, ()), ((), (12,) * 65)):
            with self.assertRaises(InvalidOperation):
                put_together(4, lots, inside, glued)
            with self.assertRaises(InvalidOperation):
                is_put_together(4, lots, inside, glued, ("own", plain(4)))
        every = tuple(range(64))
        self.assertEqual(put_together(24, (tuple(range(12)), tuple(range(12, 24))), every, every)[0], "odd")
        self.assertEqual(put_together(24, (tuple(range(12)), tuple(range(12, 24))), (), ()), ("few", 0))

    def test_words_in_two_lots_are_not_within_one(self):
        lots = ((0, 1), (2, 3))
        for word in range(16):
            inside = word in (0, 1, 2, 3, 4, 8, 12)
            if inside:
                put_together(4, lots, (word,), ())
            else:
                with self.assertRaises(InvalidOperation):
                    put_together(4, lots, (word,), ())
            put_together(4, lots, (), (word,))

    def test_no_other_value_is_right(self):
        lots = ((0, 1), (2, 3))
        for value in (None, True, 0, "own", (), ("own",), ("own", None), ["own", plain(4)], ("own", plain(4), plain(4)),
                      ("Own", plain(4)), ("own", PAIR), ("own", Code(4, (5, 10))), ("own", Code(4, (3,))), ("own", (12, 3)),
                      ("own", True), ("few", 2), ("few", 1), ("few", True), ("odd", 3, 12), ("odd", 3), ("odd",), plain(4),
                      (plain(4), "own"), {"own": plain(4)}, ("own", plain(8)), ("few", plain(4)), ("odd", plain(4), 3)):
            self.assertIs(is_put_together(4, lots, (3,), (12,), value), False)
        self.assertIs(is_put_together(4, lots, (3,), (12,), ("own", plain(4))), True)
        # what is spanned is no own code
        self.assertIs(is_put_together(4, lots, (3,), (), ("own", Code(4, (3,)))), False)
        self.assertIs(is_put_together(4, lots, (), (), ("own", Code(4, ()))), False)
        # True is equal to 1, but no integer
        self.assertIs(is_put_together(4, lots, (3,), (), ("few", 1)), True)
        self.assertIs(is_put_together(4, lots, (3,), (), ("few", True)), False)
        self.assertIs(is_put_together(4, lots, (), (0,), ("few", False)), False)
        self.assertIs(is_put_together(4, lots, (1,), (), ("odd", 1, 1)), True)
        self.assertIs(is_put_together(4, lots, (1,), (), ("odd", True, 1)), False)
        self.assertIs(is_put_together(4, lots, (1,), (), ("odd", 1, True)), False)
        for value in (("odd", 1, 10 ** 5000), ("odd", None, None), ("odd", (1,), 1), ("odd", 1, 1, 1)):
            self.assertIs(is_put_together(4, lots, (1,), (), value), False)


class Exchanged(unittest.TestCase):
    """[15.4]"""

    def test_exchanges_of_one_lot_that_keep_the_part(self):
        found = set()
        for length in (4, 6):
            for lot in naive.lots(length):
                if len(lot) == length:
                    continue
                lots = (lot, rest_of(length, lot))
                for span, code in told(length)[::2]:
                    part = within(span, lot)
                    for images in itertools.permutations(lot):
                        exchange = list(range(length))
                        for place, image in zip(lot, images):
                            exchange[place] = image
                        exchange = tuple(exchange)
                        if naive.led_code(exchange, part) != part:
                            continue
                        led = exchanged(code, exchange)
                        self.assertEqual(parts_span(led, lots), parts_span(code, lots))
                        parts = naive.sums(parts_span(code, lots))
                        before = {frozenset(word ^ one for one in parts) for word in glue(code, lots)}
                        # the glue is kept if each glue word goes to a word of the code: to a glue word and parts
                        after = [naive.led(exchange, word) in span for word in glue(code, lots)]
                        found.add((led == code, bool(before)))
                        self.assertIs(led == code, all(after))
        self.assertEqual(found, {(True, True), (False, True), (True, False)})

    def ways(self, length, lot, parts, traces):
        """In how many ways classes are led one to one, sums and products kept."""
        classes = [self.representatives(trace, part) for trace, part in zip(traces, parts)]
        there = sorted({min(word ^ one for one in parts[1]) for word in traces[1]})
        many = 0
        for images in itertools.product(there, repeat=len(classes[0])):
            pairs = itertools.product(range(len(images)), repeat=2)
            if naive.dimension(naive.sums(images + tuple(parts[1]))) != len(images) + naive.dimension(parts[1]):
                continue
            many += all(naive.even(classes[0][at], classes[0][then]) == naive.even(images[at], images[then])
                        for at, then in pairs)
        return many

    def representatives(self, trace, part):
        """Words whose classes by the part are a basis of all classes of the trace."""
        found, reached = [], naive.sums(part)
        for word in sorted(trace):
            if word not in reached:
                found.append(word)
                reached = reached | {word ^ one for one in reached}
        return found

    def test_all_codes_with_told_parts(self):
        for length, seen in ((4, None), (6, None), (8, ((0, 1), (0, 3, 6), (2, 3, 4, 5), (0, 1, 2, 4, 7)))):
            for lot in seen or list(naive.lots(length))[:-1]:
                rest = rest_of(length, lot)
                groups = {}
                for span, _ in told(length):
                    groups.setdefault((within(span, lot), within(span, rest)), []).append(span)
                for parts, spans in groups.items():
                    traces = {tuple(frozenset(word & mask(one) for word in span) for one in (lot, rest)) for span in spans}
                    self.assertEqual(len(traces), 1)
                    self.assertEqual(self.ways(length, lot, parts, traces.pop()), len(spans))


class Untrue(unittest.TestCase):
    """[15.5]"""

    def test_a_glue_word_need_not_have_ones_in_each_lot(self):
        lots = ((0, 2), (1, 3), (4, 5, 6, 7))
        self.assertEqual(glue(PLAIN, lots), (12, 3))

    def test_a_glue_word_can_be_lighter_than_all_of_the_parts(self):
        code, lots = beside(EIGHT, PAIR), (tuple(range(9)), (9,))
        self.assertEqual(glue(code, lots), (768,))
        self.assertEqual(min(naive.ones(word) for word in naive.sums(parts_span(code, lots)) if word), 4)

    def test_of_three_lots_gaps_can_be_unlike(self):
        lots = ((0, 1), (2,), (3, 4, 5, 6, 7))
        self.assertEqual([gap_at(PLAIN, lot) for lot in lots], [0, 1, 1])
        self.assertEqual(glue_dimension(PLAIN, lots), 1)


if __name__ == "__main__":
    unittest.main()
