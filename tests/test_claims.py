"""[22.1] to [22.4]: claims, their opposites, and papers that are taken for just one of them."""

import itertools
import random
import unittest

from ownchecks.code.codes import Code, dual
from ownchecks.errors import InvalidClaim
from ownchecks.judge.claims import answered, is_claim, opposite, takes
from ownchecks.near.neighbours import distance
from ownchecks.same.exchanges import exchange_or_none
from ownchecks.weigh.counts import counts_of
from ownchecks.weigh.two import parts_or_weight, two_row
from tests import naive
from tests.kinds import EIGHT, GOLAY, LISTS, LONG_STRIP, MIXED, PAIR, PLAIN, SEVENS, STRIP, TWO_STRIPS, plain
from tests.kinds import small_codes, some, told

LENGTHS = (2, 4, 6, 8)
LONGER = tuple(some(241, range(10, 26, 2), 2)) + (MIXED, STRIP, SEVENS, LONG_STRIP, TWO_STRIPS, GOLAY, plain(24))
PAIRS = (("in", "out"), ("own", "foreign"), ("held", "barred"), ("fours", "uneven"), ("apart", "unsplit"), ("near", "far"),
         ("two", "bent"))
# papers of many forms; most are none for most claims
ODD_PAPERS = (None, True, False, 0, 1, -1, 3, 15, 10 ** 5000, "", "own", "odd", (), ((),), (None,), (0,), (1,), (True,), (0, 1),
              (1, 0), (0, 0), (False, True), (3, 3), (3, 12), (12, 3), (15, 51), (0, 1, 2, 3), [], [0], [0, 1], {}, {0: 1},
              ("own",), ("odd",), ("outside",), ("odd", 1, 1), ("outside", 12), ("unlike", 0), ("odd", 1), ("unlike", True),
              ("parts", (1,)), ((0, 1),), ((1, 0),), ((0, 1), (0, 2), (0, 3)), PAIR, PLAIN, EIGHT, plain(4), ("own", PLAIN),
              (PLAIN,), ("own", ()), (1, -4), (1.5,), 5000 * (0,), tuple(range(25)), ((0,), (1,)), ("0",), "01")


def even_rows(words, paper):
    return all(naive.even(word, paper) for word in words)


class Claims(unittest.TestCase):
    """For each claim the test tells by itself which papers are right."""

    def check(self, words, rest, is_true, papers, wrong=()):
        """`papers` are the right ones among `papers` and `wrong` for the first word, and for the second one."""
        first, second = (words[0],) + rest, (words[1],) + rest
        self.assertEqual([is_claim(first), is_claim(second)], [True, True])
        self.assertEqual([opposite(first), opposite(second)], [second, first])
        claim, paper = answered(first)
        self.assertEqual(answered(second), (claim, paper))
        self.assertEqual(claim, first if is_true else second)
        self.assertIs(takes(claim, paper), True)
        # what is answered is taken, and nothing is taken for the other one
        other = opposite(claim)
        self.assertIs(takes(other, paper), False)
        for one in papers:
            self.assertIs(takes(claim, one), True, (claim, one))
            self.assertIs(takes(other, one), False, (other, one))
        for one in wrong:
            self.assertEqual([takes(first, one), takes(second, one)], [False, False], (first, one))
        for one in ODD_PAPERS:
            self.assertIs(takes(other, one), False, (other, one))
            self.assertIn(takes(claim, one), (True, False))
        return claim, paper

    def test_in_and_out(self):
        for length, span, code in small_codes(1, 4):
            basis = naive.basis(span)
            lots = list(naive.index_lots(len(basis)))
            for word in range(2 ** length):
                right = [lot for lot in lots if naive.total([basis[at] for at in lot]) == word]
                shows = [one for one in range(2 ** length) if even_rows(basis, one) and not naive.even(one, word)]
                is_in = word in span
                self.check(("in", "out"), (code, word), is_in, right if is_in else shows,
                           [one for one in list(range(-1, 2 ** length + 1)) + lots if one not in right and one not in shows])
                self.assertEqual([bool(right), bool(shows)], [is_in, not is_in])
        for code in LONGER + tuple(code for _, code in told(8)[::9]):
            source = random.Random(code.length)
            span = naive.sums(code.basis)
            for word in (0, 2 ** code.length - 1, source.choice(sorted(span)), source.randrange(2 ** code.length)):
                self.check(("in", "out"), (code, word), word in span, [])

    def test_bent_indices(self):
        word = naive.total([EIGHT.basis[1], EIGHT.basis[3]])
        self.assertIs(takes(("in", EIGHT, word), (1, 3)), True)
        for paper in ((3, 1), (1, 1, 1, 3), (1,), (1, 3, 4), (1, -1), [1, 3], (True, 3), (1, 3, 3), (1, 2), (), ((1, 3),), 51,
                      (1, 10 ** 60), ("1", "3"), (1, None), {1: 3}):
            self.assertIs(takes(("in", EIGHT, word), paper), False)
        self.assertIs(takes(("in", EIGHT, 0), ()), True)
        self.assertIs(takes(("out", PAIR, 1), 3), True)
        for paper in (0, 1, 2, 4, 7, -1, True, "3", (3,), None, 10 ** 60):
            self.assertIs(takes(("out", PAIR, 1), paper), False)
        self.assertIs(takes(("out", Code(1, ()), 1), 1), True)
        self.assertIs(takes(("out", Code(1, ()), 1), True), False)

    def test_own_and_foreign(self):
        for length, span, code in small_codes(1, 4):
            words = range(-1, 2 ** length + 1)
            odd = [("odd", one, other) for one, other in itertools.product(words, repeat=2)]
            outside = [("outside", one) for one in words]
            right = [paper for paper in odd if paper[1] in span and paper[2] in span and not naive.even(*paper[1:])]
            right += [paper for paper in outside if paper[1] in words[1:-1] and paper[1] not in span and even_rows(span, paper[1])]
            is_own = naive.is_own(length, span)
            self.assertIs(is_own, not right)
            wrong = [paper for paper in odd + outside if paper not in right][::1 if length < 4 else 7]
            self.check(("own", "foreign"), (code,), is_own, [()] if is_own else right, wrong)
        for code in LONGER:
            self.check(("own", "foreign"), (code,), True, [()], [("own",), ("odd", 0, 0), ("outside", 0), ((),), [], None])
            self.check(("own", "foreign"), (Code(code.length, code.basis[1:]),), False, [], [("own",), ()])

    def test_held_and_barred(self):
        for length, span, code in [one for one in small_codes(2, 4) if one[0] % 2 == 0]:
            around = [other for own, other in told(length) if span <= own]
            beside = [other for own, other in told(length) if not span <= own]
            words = range(-1, 2 ** length + 1)
            pairs = list(itertools.product(words, repeat=2))
            right = [pair for pair in pairs if pair[0] in span and pair[1] in span and not naive.even(*pair)]
            wrong = [pair for pair in pairs if pair not in right][::5] + beside + [code] * (not naive.is_own(length, span))
            self.check(("held", "barred"), (code,), bool(around), around or right, wrong)
        source = random.Random(242)
        for code in LONGER:
            words = sorted(naive.sums(code.basis))
            inner = Code(code.length, tuple(source.sample(words, 3)))
            self.check(("held", "barred"), (inner,), True, [code], [inner, dual(inner), Code(code.length, code.basis[1:]), PAIR])
            odd = Code(code.length, inner.basis + (1,))
            self.check(("held", "barred"), (odd,), False, [(1, 1)], [code, odd, (1, 1, 1), [1, 1], (1,), (0, 1), (True, 1)])

    def test_fours_and_uneven(self):
        for length in LENGTHS:
            for span, code in told(length):
                right = [word for word in span if naive.ones(word) % 4]
                wrong = [word for word in range(-1, 2 ** length + 1) if word not in right][::1 if length < 8 else 15]
                self.check(("fours", "uneven"), (code,), not right, right or [()], wrong)
        for code in LONGER:
            span = naive.sums(code.basis)
            right = sorted(word for word in span if naive.ones(word) % 4)
            self.check(("fours", "uneven"), (code,), not right, right[:10] or [()], [0, 2 ** code.length - 1 if not right else 0])

    def falls_apart(self, span, lot):
        whole = sum(2 ** place for place in lot)
        return all(word & whole in span for word in span)

    def tied(self, basis):
        """All pairs of tied places, in both sequences."""
        heads = [(naive.highest(word), word) for word in basis]
        pairs = {(head, place) for head, word in heads for place in range(head) if word >> place & 1}
        return pairs | {(place, head) for head, place in pairs}

    def is_chain(self, length, basis, paper):
        tied, reached = self.tied(basis), {0}
        for first, last in paper:
            if first not in reached or (first, last) not in tied:
                return False
            reached.add(last)
        return len(paper) == length - 1 and reached == set(range(length))

    def test_apart_and_unsplit(self):
        for length in LENGTHS:
            for span, code in told(length)[::1 if length < 8 else 9]:
                lots = list(naive.lots(length))
                right = [lot for lot in lots[:-1] if self.falls_apart(span, lot)]
                wrong = [lot for lot in lots if lot not in right] + [()]
                claim, paper = self.check(("apart", "unsplit"), (code,), bool(right), right, wrong[::1 if length < 8 else 5])
                self.assertIs(claim[0] == "unsplit", not right)
                if not right:
                    self.assertTrue(self.is_chain(length, code.basis, paper))
        for code in LONGER:
            falls = self.parts_of(code) > 1
            claim, paper = self.check(("apart", "unsplit"), (code,), falls, [], [tuple(range(code.length)), ()])
            if claim[0] == "unsplit":
                self.assertTrue(self.is_chain(code.length, code.basis, paper))

    def parts_of(self, code):
        """How many lots hang together by ties."""
        tied, left, many = self.tied(code.basis), set(range(code.length)), 0
        while left:
            latest = {min(left)}
            while latest:
                left -= latest
                latest = {other for one, other in tied if one in latest and other in left}
            many += 1
        return many

    def test_all_chains_of_a_short_code(self):
        basis = EIGHT.basis
        pairs = sorted(self.tied(basis))
        claim = ("unsplit", EIGHT)
        _, chain = answered(claim)
        self.assertTrue(self.is_chain(8, basis, chain))
        taken = 0
        for at in range(7):
            for pair in pairs + [(0, 0), (8, 1), (1, 8), (-1, 0)]:
                paper = chain[:at] + (pair,) + chain[at + 1:]
                right = pair in pairs and self.is_chain(8, basis, paper)
                taken += right
                self.assertIs(takes(claim, paper), right)
        self.assertGreater(taken, 7)
        source = random.Random(243)
        for _ in range(300):
            paper = tuple(source.choice(pairs) for _ in range(7))
            self.assertIs(takes(claim, paper), self.is_chain(8, basis, paper))
        for paper in (chain[:-1], chain + chain[-1:], chain[::-1], list(chain), chain[:-1] + (list(chain[-1]),),
                      chain[:-1] + (chain[-1] + (0,),), chain[:-1] + (chain[-1][:1],), chain[:-1] + (None,), chain[:-1] + (7,),
                      tuple(pair[::-1] for pair in chain), chain[:-1] + ((True, chain[-1][1]),), chain[:-1] + (("0", "1"),),
                      ((False, chain[0][1]),) + chain[1:], chain[:-1] + ((10 ** 60, 1),), chain[:-1] + (EIGHT,)):
            self.assertIs(takes(claim, paper), False, paper)
        self.assertIs(takes(("unsplit", PAIR), ((0, 1),)), True)
        for paper in (((1, 0),), ((0, 0),), ((1, 1),), ((0, 2),), ((False, True),), (), (0, 1), ((0, 1), (0, 1))):
            self.assertIs(takes(("unsplit", PAIR), paper), False)

    def test_near_and_far(self):
        for length in (2, 4, 6):
            for (one, code), (other, more) in itertools.product(told(length), repeat=2):
                far = naive.apart(one, other)
                half = length // 2
                for steps in range(half + 1):
                    near = far <= steps
                    claim, paper = self.check(("near", "far"), (code, more, steps), near, [], [None, ((),), (0,) * (half - steps + 1)])
                    self.assertEqual(len(paper), half - steps if near else half + 1 + steps)
                    words = one & other if near else one | other
                    self.assertTrue(set(paper) <= words and naive.dimension(naive.sums(paper)) == len(paper))
        for one, other in [(PLAIN, EIGHT), (EIGHT, told(8)[40][1]), (STRIP, plain(12)), (GOLAY, plain(24)), (MIXED, plain(10)),
                           (SEVENS, LISTS[14][1]), (TWO_STRIPS, LONG_STRIP)]:
            far = distance(one, other)
            for steps in range(one.length // 2 + 1):
                self.check(("near", "far"), (one, other, steps), far <= steps, [])

    def test_all_papers_of_near_and_far(self):
        for (one, code), (other, more) in itertools.product(told(4), repeat=2):
            for steps in range(3):
                for many in range(5):
                    for paper in itertools.product(range(16), repeat=many) if many < 3 else itertools.combinations(range(16), many):
                        free = naive.dimension(naive.sums(paper)) == many
                        near = free and many == 2 - steps and set(paper) <= one & other
                        far = free and many == 3 + steps and set(paper) <= one | other
                        self.assertIs(takes(("near", code, more, steps), paper), near)
                        self.assertIs(takes(("far", code, more, steps), paper), far)

    def test_bent_words(self):
        near = ("near", PLAIN, EIGHT, 1)
        for paper in ((195, 51, 15), (15, 51, 195), (15, 60, 255)):
            self.assertIs(takes(near, paper), True)
        for paper in ((195, 51), (195, 51, 15, 60), (195, 51, 0), (195, 51, 240), (195, 51, 51), (195, 51, 3), (195, 51, 85),
                      [195, 51, 15], (195, 51, "15"), (195, 51, True), (195, 51, 15 + 256), (195, 51, -15), (195, 51, None),
                      ((195, 51, 15),), (195, 51, 10 ** 60), None, 195):
            self.assertIs(takes(near, paper), False)
        far = ("far", PLAIN, EIGHT, 0)
        for paper in ((3, 12, 48, 192, 85), (85, 51, 15, 150, 3), (195, 51, 15, 3, 85)):
            self.assertIs(takes(far, paper), True)
        for paper in ((3, 12, 48, 192), (3, 12, 48, 192, 85, 150), (3, 12, 48, 192, 255), (3, 12, 48, 192, 5), (3, 12, 48, 192, 0),
                      [3, 12, 48, 192, 85], (3, 12, 48, 192, "85"), (3, 12, 48, 192, 85 + 256), (3, 12, 48, 192, 85 ^ 3)):
            self.assertIs(takes(far, paper), False, paper)
        for code in (PAIR, PLAIN, GOLAY):
            self.assertIs(takes(("near", code, code, code.length // 2), ()), True)
            self.assertIs(takes(("near", code, code, 0), code.basis), True)

    def test_two_and_bent(self):
        rows = [(one, 0, other) for one in range(-2, 3) for other in range(-2, 3)] + [(1, 1, 1), (0, 0, 0), (0, 3, 0)]
        rows += [(1, 0, 2, 0, one) for one in (0, 1, 2)] + [(1, 0, 0, 0, 1), (0, 0, 0, 1, 0)]
        for code in LONGER + tuple(code for codes in LISTS.values() for code in codes):
            row = counts_of(code)
            rows.append(row)
            for at in (0, 1, len(row) // 2, len(row) - 1):
                rows.append(row[:at] + (row[at] + 1,) + row[at + 1:])
        for row in rows:
            answer = parts_or_weight(row)
            is_two = answer[0] == "parts"
            paper = answer[1] if is_two else answer
            wrong = [list(paper), paper + (0,), paper[:-1], (paper,), paper[:-1] + (None,), paper[:-1] + ("0",)]
            if not is_two:
                wrong += [(answer[0], answer[1] + 1), (answer[0], answer[1] - 1), ("even", answer[1]), answer[::-1]]
            if is_two:
                wrong += [paper[:-1] + (paper[-1] + 1,), (paper[0] + 1,) + paper[1:], ("parts", paper)]
            claim, told_paper = self.check(("two", "bent"), (row,), is_two, [paper], wrong)
            self.assertEqual(told_paper, paper)
            # a second look at it: the rows, each times its multiple
            length = len(row) - 1
            if is_two:
                rows_told = [two_row(length, j) for j in range(length // 8 + 1)]
                self.assertEqual(tuple(sum(part * one for part, one in zip(paper, column)) for column in zip(*rows_told)), row)
        # True is equal to 1, but no integer
        self.assertIs(takes(("two", (1, 0, 1)), (1,)), True)
        self.assertIs(takes(("two", (1, 0, 1)), (True,)), False)
        self.assertIs(takes(("bent", (1, 1, 1)), ("odd", 1)), True)
        self.assertIs(takes(("bent", (1, 1, 1)), ("odd", True)), False)
        self.assertIs(takes(("bent", (1, 0, 2)), ("unlike", False)), False)

    def test_great_multiples(self):
        most = 10 ** 60 - 1
        part = most // 14
        row = (part, 0, 0, 0, 14 * part, 0, 0, 0, part)
        self.assertEqual(answered(("bent", row)), (("two", row), (part, -4 * part)))
        self.assertEqual(answered(("two", (most,) + (0,) * 7 + (most,)))[0][0], "bent")
        # papers with longer integers are none, and no error is raised for them
        for paper in ((part + 10 ** 60, -4 * part), (10 ** 5000, -10 ** 5000), (part, -4 * part + 10 ** 60)):
            self.assertEqual([takes((word, row), paper) for word in ("two", "bent")], [False, False])
        self.assertIs(is_claim(("two", (most + 1, 0, 1))), False)
        for light in itertools.product((0, most // 10 ** 4, -most // 10 ** 4), repeat=4):
            rows = [two_row(24, j) for j in range(4)]
            parts = []
            for j in range(4):
                ahead = sum(part * row[2 * j] for part, row in zip(parts, rows))
                parts.append(light[j] - ahead)
            row = tuple(sum(part * one for part, one in zip(parts, column)) for column in zip(*rows))
            if max(map(abs, row)) <= most:
                self.assertEqual(answered(("two", row)), (("two", row), tuple(parts)))
                self.assertIs(takes(("two", row), tuple(parts)), True)
                self.assertIs(takes(("bent", row), ("unlike", 0)), False)


class Forms(unittest.TestCase):
    RIGHT = (("in", EIGHT, 15), ("out", EIGHT, 255), ("out", Code(3, (7,)), 0), ("own", EIGHT), ("own", Code(3, ())),
             ("foreign", PAIR), ("held", PAIR), ("barred", Code(24, ())), ("fours", PAIR), ("uneven", EIGHT), ("apart", GOLAY),
             ("unsplit", PAIR), ("near", PLAIN, EIGHT, 0), ("far", PLAIN, EIGHT, 4), ("near", PAIR, PAIR, 1),
             ("two", (0, 0, 0)), ("bent", (0,) * 25), ("two", (10 ** 60 - 1, 0, 1 - 10 ** 60)), ("bent", (-1, 5, 7, 0, 1)))

    def test_right_ones(self):
        for value in self.RIGHT:
            self.assertIs(is_claim(value), True)
            self.assertIs(type(opposite(value)), tuple)
            self.assertEqual(opposite(opposite(value)), value)
            self.assertNotEqual(opposite(value)[0], value[0])
            answer = answered(value)
            self.assertEqual((type(answer), len(answer)), (tuple, 2))
            self.assertIn(answer[0], (value, opposite(value)))
        for one, other in PAIRS:
            rest = next(value[1:] for value in self.RIGHT if value[0] in (one, other))
            self.assertEqual([opposite((one,) + rest), opposite((other,) + rest)], [(other,) + rest, (one,) + rest])

    def test_one_member_too_few_or_too_many(self):
        for value in self.RIGHT:
            for wrong in (value[:-1], value + (0,), value + value[-1:], value[:1], value[1:], list(value), (value,), value[::-1],
                          (value[0].upper(),) + value[1:], ("",) + value[1:], (None,) + value[1:], (value,) + value[1:],
                          (value[0] + " ",) + value[1:], ([value[0]],) + value[1:], ({},) + value[1:]):
                self.refused(wrong)

    def refused(self, value):
        self.assertIs(is_claim(value), False, value)
        for call, more in ((opposite, ()), (answered, ()), (takes, ((),)), (takes, (None,))):
            with self.assertRaises(InvalidClaim):
                call(value, *more)

    def test_wrong_members(self):
        none = (None, True, False, 0, 3, "", "EIGHT", (), (8, (15, 51)), [EIGHT], (EIGHT,), {}, EIGHT.basis)
        for words in PAIRS[:5]:
            for word, code in itertools.product(words, none):
                self.refused((word, code) + ((0,) if word in ("in", "out") else ()))
        for word, wrong in itertools.product(("in", "out"), (-1, 256, True, None, "15", (15,), 10 ** 60, 15.0, EIGHT)):
            self.refused((word, EIGHT, wrong))
        for word, length in itertools.product(("held", "barred"), (1, 3, 23)):
            self.refused((word, Code(length, ())))
        for word in ("fours", "uneven", "apart", "unsplit"):
            for code in (Code(8, (15,)), Code(2, ()), Code(3, (7,)), Code(4, (3, 5)), Code(4, (1, 2)), dual(Code(8, (15,)))):
                self.refused((word, code))
        for word in ("near", "far"):
            for rest in ((PLAIN, EIGHT, 5), (PLAIN, EIGHT, -1), (PLAIN, EIGHT, True), (PLAIN, EIGHT, None), (PLAIN, EIGHT, "1"),
                         (PLAIN, PAIR, 1), (PAIR, PLAIN, 1), (PLAIN, Code(8, (15,)), 1), (Code(8, (15,)), PLAIN, 1),
                         (PLAIN, None, 1), (None, PLAIN, 1), (PLAIN, 1, EIGHT), (PLAIN, EIGHT, 10 ** 60), (PLAIN, EIGHT, (1,)),
                         (PAIR, PAIR, 2), ((PLAIN,), EIGHT, 1), (1, 2, 3)):
                self.refused((word,) + rest)
        for word in ("two", "bent"):
            for row in ((), (1,), (1, 0), (1, 0, 0, 1), (0,) * 24, (0,) * 26, (0,) * 27, [1, 0, 1], None, True, 3, "101", {0: 1},
                        (1, 0, True), (False, 0, 1), (1, 0, None), (1, 0, "1"), (1, 0, 10 ** 60), (-10 ** 60, 0, 1),
                        (1, 0, 10 ** 5000), (1, 0, (1,)), (1, 0, EIGHT), EIGHT, ((1, 0, 1),), (1, 0, 1.0)):
                self.refused((word, row))

    def test_other_values(self):
        for value in (None, True, False, 0, -1, 10 ** 5000, "", "in", "own", (), ((),), [], {}, PLAIN, (PLAIN,), (0, PLAIN),
                      ("Own", PLAIN), ("in",), ("own",), ("two",), 5000 * ("own",), ("owned", PLAIN), (("own", PLAIN),)):
            self.refused(value)

    def test_any_paper(self):
        for value in self.RIGHT:
            claim, paper = answered(value)
            for one in ODD_PAPERS + (value, (value,), [paper], (paper, paper)):
                self.assertIs(takes(opposite(claim), one), False)
                self.assertIn(takes(claim, one), (True, False))


class Untrue(unittest.TestCase):
    """[22.4]"""

    def test_even_words_and_not_held(self):
        code = Code(4, (3, 5))
        self.assertEqual({naive.ones(word) % 2 for word in code.basis}, {0})
        self.assertEqual(answered(("held", code))[0][0], "barred")

    def test_more_than_one_chain(self):
        _, chain = answered(("unsplit", EIGHT))
        others = [paper for paper in itertools.permutations(chain) if takes(("unsplit", EIGHT), paper)]
        self.assertGreater(len(others), 1)

    def test_near_but_not_alike(self):
        self.assertIs(takes(("near", PLAIN, EIGHT, 1), (195, 51, 15)), True)
        self.assertIsNone(exchange_or_none(PLAIN, EIGHT))


if __name__ == "__main__":
    unittest.main()
