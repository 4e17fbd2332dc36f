"""[0.1], [0.3], [0.4], [0.6]: invalid arguments, and judged values, from cosets to claims."""

import itertools
import unittest

from ownchecks.bench.bench import Bench
from ownchecks.code import cosets
from ownchecks.code.codes import Code
from ownchecks.errors import InvalidClaim, InvalidCode, InvalidCounts, InvalidNumber, InvalidOperation, InvalidText
from ownchecks.errors import InvalidWord, UnknownName
from ownchecks.judge import claims
from ownchecks.text import texts
from tests.kinds import EIGHT, GOLAY, PAIR, PLAIN, plain
from tests.refusals import CODE, JUDGED, LENGTH, NO_CODES, NO_INTEGERS, ONE_CODE, OUT_OF_RANGE, TUPLES_OF_4, VALUE
from tests.refusals import WORDS_OF_4, Refusals
from tests.test_interface import CLAIMS, COSETS, METHODS, TEXTS
from tests.test_wrong_own_codes import EXCHANGE, NO_COUNTS, NO_EXCHANGES, NOT_OWN, OF_OTHER_LENGTHS, OWN, WORD

INTEGERS = NO_INTEGERS + OUT_OF_RANGE
NO_BITS = (True, False, None, 0, 1, "", "01", [], [0, 1], {}, {0: 1}, CODE, (), (0,), (1, 1, 0), (0,) * 24, (2, 0), (0, -1),
           (True, 0), (0, False), (None, 1), ("0", "1"), (0, "1"), ((0, 1),), ((0,), 1), ([0], 1), (10 ** 60, 0),
           (0, 10 ** 99), (0, CODE))
NO_TEXTS = (True, None, 0, 10 ** 60, (), ("end",), [], ["code 1\nend\n"], {}, {"code": 1}, CODE, b"code 1\nend\n", "\t",
            "code 1\nend\n\t", "code\t1\nend\n", "code 1\r\nend\r\n", "\x00", "\x7f", "\u00e9", "exchange \u0660\n",
            "code 1\nend\n\u2028", "x" * 10001, "\n" * 10001, " " * 12000)
NO_NAMES = (True, False, None, 0, 1, 10 ** 60, (), ("a",), [], ["a"], {}, {"a": 1}, CODE, "", "A", "aB", "a1", "1", "a b", " ",
            " a", "a ", "a\n", "a_", "a-b", "abcdefghi", "a" * 4000, "a\t", "\u00e4", "\u03b1")
UNKNOWN = NO_NAMES + ("d", "aa", "ba", "abcdefgh")

SHORT_TEXT = {texts.read_code: "code 1\nend\n", texts.read_words: "words 1\nend\n", texts.read_exchange: "exchange 0\n",
              texts.read_counts: "counts 0 1\n"}
ODD_WORD = (1, WORDS_OF_4, InvalidWord)
BITS = ((0, 1), NO_BITS, InvalidOperation)
COUNTS = ((1, -5), NO_COUNTS, InvalidCounts)
WORDS = ((3, 3), TUPLES_OF_4, InvalidWord)
NO_CLAIMS = tuple(value for value in JUDGED) + (("own",), ("own", None), ("own", CODE, 0), ["own", CODE], ("in", CODE, 16),
                                                ("held", Code(3, ())), ("fours", Code(4, (3,))), ("near", CODE, PAIR, 0),
                                                ("near", CODE, CODE, 3), ("far", CODE, CODE, True), ("two", (1, 0)),
                                                ("bent", (1, 0, 10 ** 60)), ("Own", CODE), (CODE, "own"), ("apart", CODE.basis))
CLAIM = (("own", CODE), NO_CLAIMS, InvalidClaim)

CALLS = {
    cosets.coset_of: (OWN, WORD),
    cosets.products_of: (OWN, WORD),
    cosets.word_with: (OWN, BITS),
    cosets.leader: (OWN, WORD),
    cosets.is_leader: (OWN, VALUE),
    cosets.nearest: (OWN, WORD),
    cosets.leaders: (OWN,),
    cosets.least_weights: (OWN,),
    cosets.signed_counts: (OWN, WORD),
    cosets.radius: (OWN,),
    cosets.farthest: (OWN,),
    cosets.parent_counts: (OWN, ODD_WORD),
    texts.code_text: (ONE_CODE,),
    texts.words_text: (LENGTH, WORDS),
    texts.exchange_text: (EXCHANGE,),
    texts.counts_text: (COUNTS,),
    texts.read_code: ((SHORT_TEXT[texts.read_code], NO_TEXTS, InvalidText),),
    texts.read_words: ((SHORT_TEXT[texts.read_words], NO_TEXTS, InvalidText),),
    texts.read_exchange: ((SHORT_TEXT[texts.read_exchange], NO_TEXTS, InvalidText),),
    texts.read_counts: ((SHORT_TEXT[texts.read_counts], NO_TEXTS, InvalidText),),
    claims.is_claim: (VALUE,),
    claims.opposite: (CLAIM,),
    claims.takes: (CLAIM, VALUE),
    claims.answered: (CLAIM,),
}


class WrongCosets(Refusals, unittest.TestCase):
    CALLS = CALLS

    def test_each_call_is_here(self):
        self.assertEqual({call.__name__ for call in CALLS}, {*COSETS, *TEXTS, *CLAIMS})

    def test_judges_take_each_value(self):
        for value in JUDGED:
            # 0, 1 and -1 are the only integers there of less than sixty digits
            self.assertIs(cosets.is_leader(EIGHT, value), type(value) is int and value in (0, 1))
            self.assertIs(claims.is_claim(value), False)
            for claim in (("foreign", CODE), ("out", CODE, 3), ("uneven", EIGHT), ("apart", PAIR), ("barred", CODE),
                          ("far", CODE, CODE, 0), ("bent", (1, 0, 1)), ("two", (1, 1, 1)), ("unsplit", CODE)):
                self.assertIs(claims.takes(claim, value), False)
        self.assertIs(claims.takes(("own", CODE), ()), True)

    def test_too_long_codes_come_behind_invalid_arguments(self):
        long = plain(18)
        for call in (cosets.leaders, cosets.least_weights, cosets.radius, cosets.farthest):
            self.refused(call, (Code(18, ()),), InvalidCode, None)
            for length in (18, 20, 24):
                self.too_many(call, (plain(length),), 16)
        for call in (cosets.coset_of, cosets.products_of, cosets.leader, cosets.nearest, cosets.signed_counts,
                     cosets.parent_counts):
            for wrong in (-1, True, 2 ** 18, None):
                self.refused(call, (long, wrong), InvalidWord, None)
            # an even word is refused behind a code that is too long
            for word in (0, 1, 3, 2 ** 18 - 1):
                self.too_many(call, (long, word), 16)
        for bits in ((0,) * 8, (0,) * 10, (0,) * 8 + (2,), (True,) * 9, None):
            self.refused(cosets.word_with, (long, bits), InvalidOperation, None)
        self.too_many(cosets.word_with, (long, (0,) * 9), 16)
        for value in (None, 0, True, 10 ** 5000, ()):
            self.too_many(cosets.is_leader, (long, value), 16)

    def test_bits_for_each_length(self):
        for length in range(2, 18, 2):
            half = length // 2
            self.assertEqual(cosets.word_with(plain(length), (0,) * half), 0)
            for wrong in (half - 1, half + 1):
                self.refused(cosets.word_with, (plain(length), (0,) * wrong), InvalidOperation, None)
            for bit in (2, -1, True, False, None, "0", 10 ** 60):
                self.refused(cosets.word_with, (plain(length), (0,) * (half - 1) + (bit,)), InvalidOperation, None)

    def test_even_words_have_no_parents(self):
        for word in (0, 3, 5, 15):
            self.refused(cosets.parent_counts, (CODE, word), InvalidOperation, None)
        self.refused(cosets.parent_counts, (CODE, 16), InvalidWord, None)

    def test_numbers_of_sixty_digits(self):
        most = 10 ** 60 - 1
        for row in ((most, -most), (0, most)):
            self.assertEqual(texts.read_counts(texts.counts_text(row)), row)
        for row in ((most + 1, 0), (0, -most - 1)):
            self.refused(texts.counts_text, (row,), InvalidCounts, None)
        self.assertIs(claims.is_claim(("two", (most, 0, most))), True)
        self.assertIs(claims.is_claim(("two", (most + 1, 0, most))), False)

    def test_exchanges_of_each_length(self):
        for length in range(1, 25):
            self.assertTrue(texts.exchange_text(tuple(range(length))).startswith("exchange 0"))
        for wrong in ((), tuple(range(25)), (1,), (0, 0)):
            self.refused(texts.exchange_text, (wrong,), InvalidOperation, None)


def bench_of_three():
    bench = Bench()
    for name, code in (("a", CODE), ("b", CODE), ("c", PAIR)):
        bench.put(name, code)
    bench.ask("a", "b")
    return bench


NAME = ("a", UNKNOWN, UnknownName)
NEW = ("new", NO_NAMES, InvalidText)
ON_A_BENCH = {
    "put": (NEW, OWN),
    "drop": (NAME,),
    "step": (NAME, WORD),
    "turn": (NAME, ((1, 0, 3, 2), NO_EXCHANGES + OF_OTHER_LENGTHS, InvalidOperation)),
    "grow": (NAME, (4, INTEGERS + (5, 6, 4096), InvalidNumber)),
    "shrink": (NAME, (1, INTEGERS + (4, 5, 24), InvalidNumber), (3, INTEGERS + (4, 5, 24), InvalidNumber)),
    "unite": (NEW, NAME, ("b", UNKNOWN, UnknownName)),
    "undo": (),
    "redo": (),
    "code_of": (NAME,),
    "ask": (NAME, ("b", UNKNOWN, UnknownName)),
    "known": (NAME, ("b", UNKNOWN, UnknownName)),
    "apart": (NAME, ("b", UNKNOWN, UnknownName)),
}


class WrongOnABench(Refusals, unittest.TestCase):
    CALLS = {}

    def test_each_method_is_here(self):
        self.assertEqual(set(ON_A_BENCH), set(METHODS))

    def told(self, bench):
        pairs = itertools.product(bench.names, repeat=2)
        return str(bench), [(name, bench.code_of(name).basis) for name in bench.names], [bench.known(*pair) for pair in pairs]

    def test_one_and_two_wrong_ones(self):
        bench = bench_of_three()
        before = self.told(bench)
        for method, kinds in ON_A_BENCH.items():
            call = getattr(bench, method)
            for at, (_, wrong, error) in enumerate(kinds):
                for value in wrong:
                    arguments = [right for right, _, _ in kinds]
                    arguments[at] = value
                    self.refused(call, arguments, error, value)
            for (at, (_, wrong, error)), (then, (_, others, _)) in itertools.combinations(enumerate(kinds), 2):
                for value, other in itertools.product(wrong, others[::3]):
                    arguments = [right for right, _, _ in kinds]
                    arguments[at], arguments[then] = value, other
                    self.refused(call, arguments, error, value)
        self.assertEqual(self.told(bench), before)

    def test_the_right_ones_are_taken(self):
        for method, kinds in ON_A_BENCH.items():
            bench = bench_of_three()
            bench.drop("c")
            bench.put("c", PAIR)
            bench.undo()
            answer = getattr(bench, method)(*[right for right, _, _ in kinds])
            self.assertIs(answer is None, method not in ("code_of", "ask", "known", "apart"))

    def test_what_is_not_allowed_comes_behind_what_is_invalid(self):
        bench = bench_of_three()
        bench.put("long", GOLAY)
        bench.put("fours", PLAIN)
        for word in (0, 1, 3, 15):
            self.refused(bench.step, ("a", word), InvalidOperation, None)
        for places in ((1, 0), (2, 2), (3, 0)):
            self.refused(bench.shrink, ("a",) + places, InvalidOperation, None)
        self.refused(bench.shrink, ("c", 0, 1), InvalidOperation, None)
        self.refused(bench.shrink, ("c", 1, 2), InvalidNumber, 2)
        self.too_many(bench.grow, ("long", 0), 24)
        self.refused(bench.grow, ("long", 2 ** 12 + 1), InvalidNumber, 2 ** 12 + 1)
        for pair in (("a", "c"), ("c", "b"), ("a", "long")):
            self.refused(bench.ask, pair, InvalidOperation, None)
            self.refused(bench.apart, pair, InvalidOperation, None)
            self.assertIsNone(bench.known(*pair))
        self.too_many(bench.ask, ("long", "long"), 16)
        self.assertEqual(bench.apart("long", "long"), 0)
        self.refused(bench.unite, ("new", "long", "c"), InvalidOperation, None)
        self.refused(bench.unite, ("New", "x", "y"), InvalidText, None)
        for code in NO_CODES + NOT_OWN:
            self.refused(bench.put, ("a", code), InvalidCode, None)
            self.refused(bench.put, ("a1", code), InvalidText, None)


if __name__ == "__main__":
    unittest.main()
