"""[0.13] to [0.20] over the whole program: runs of a bench, cosets and their parents, and claims about them."""

import itertools
import math
import random
import unittest

from ownchecks.bench.bench import Bench
from ownchecks.code.codes import Code, is_own
from ownchecks.code.cosets import coset_of, leaders, parent_counts, products_of, word_with
from ownchecks.four.families import is_by_fours
from ownchecks.four.shades import counts_or_weight, shadow_counts
from ownchecks.four.shadows import least_shadow
from ownchecks.judge.claims import answered, opposite, takes
from ownchecks.kinds.masses import is_kinds_of, is_list, kind_in, kinds_of
from ownchecks.near.every import address_of, child, code_at, code_by, codes, count_of, digit_of, number_of, parents
from ownchecks.near.neighbours import distance, neighbour, neighbours, shared
from ownchecks.near.within import around_or_odd, count_around
from ownchecks.same.exchanges import alike_count, exchange_or_none, exchanged, order_of
from ownchecks.same.fours import are_alike_by_fours, fingerprint
from ownchecks.same.parts import is_unsplit, side_by_side, unsplit_parts
from ownchecks.text.texts import code_text, counts_text, exchange_text, read_code, read_counts, read_exchange
from ownchecks.weigh.counts import coset_counts, counts_of
from ownchecks.weigh.two import parts_of, row_by
from tests import naive
from tests.kinds import EIGHT, LISTS, LONG_STRIP, MIXED, PAIR, PLAIN, SIXTEEN, STRIP, mixed_up, some, told
from tests.naive import times


class Runs(unittest.TestCase):
    """At each place of a run what the modules tell of its codes goes together."""

    def check_code(self, code):
        row = counts_of(code)
        self.assertIs(is_own(code), True)
        self.assertEqual(row_by(code.length, parts_of(code)), row)
        self.assertEqual(counts_or_weight(code.length, parts_of(code)), ("counts", shadow_counts(code)))
        self.assertEqual((sum(row), row[::-1]), (2 ** (code.length // 2), row))
        product, order = (1,), 1
        parts = unsplit_parts(code)
        for part in parts:
            product = times(product, counts_of(part))
            order *= order_of(part)
        self.assertEqual(product, row)
        for one in {part.basis for part in parts}:
            # parts that are alike can be exchanged as a whole
            alike = [part for part in parts if part.length == 2 * len(one) and exchange_or_none(Code(part.length, one), part)]
            mine = [part for part in parts if part.basis == one]
            self.assertLessEqual(len(mine), len(alike))
        self.assertEqual(order_of(code) % order, 0)
        self.assertEqual(alike_count(code) * order_of(code), math.factorial(code.length))
        self.assertLessEqual(alike_count(code), count_of(code.length))
        self.assertEqual(code_at(address_of(code)), code)
        self.assertEqual(code_by(code.length, number_of(code)), code)
        self.assertEqual(read_code(code_text(code)), code)
        self.assertEqual(read_counts(counts_text(row)), row)
        self.assertIs(is_by_fours(code), least_shadow(code) == 0)
        for word in ("own", "fours", "apart", "held", "barred"):
            claim, paper = answered((word, code))
            self.assertEqual([takes(claim, paper), takes(opposite(claim), paper)], [True, False])
        self.assertIs(answered(("apart", code))[0][0] == "unsplit", is_unsplit(code))
        self.assertEqual(answered(("bent", row))[0][0], "two")

    def check_two(self, bench, name, other):
        one, then = bench.code_of(name), bench.code_of(other)
        if one.length != then.length:
            self.assertIsNone(bench.known(name, other))
            return
        far = bench.apart(name, other)
        self.assertEqual(far, one.length // 2 - shared(one, then).dimension)
        answer = bench.ask(name, other)
        self.assertIs(bench.ask(name, other), answer)
        self.assertIs(answer != ("unlike",), are_alike_by_fours(one, then))
        self.assertIs(answer != ("unlike",), fingerprint(one) == fingerprint(then))
        if answer != ("unlike",):
            exchange = read_exchange(exchange_text(answer[1]))
            self.assertEqual(exchanged(one, exchange), then)
            self.assertEqual([counts_of(one), order_of(one), shadow_counts(one)],
                             [counts_of(then), order_of(then), shadow_counts(then)])
        self.assertEqual(answered(("near", one, then, far))[0][0], "near")
        if far:
            self.assertEqual(answered(("near", one, then, far - 1))[0][0], "far")
        self.assertEqual(count_around(shared(one, then)), math.prod(2 ** at + 1 for at in range(1, far + 1)))

    def test_runs(self):
        for seed in range(5):
            source = random.Random(250 + seed)
            bench = Bench()
            bench.put("a", PLAIN)
            bench.put("b", EIGHT)
            bench.put("c", PAIR)
            seen = [self.shown(bench)]
            for _ in range(16):
                name = source.choice(bench.names)
                code = bench.code_of(name)
                move = source.randrange(6)
                if move == 0 and code.length < 12:
                    bench.grow(name, source.randrange(2 ** (code.length // 2) + 1))
                elif move == 1 and code.length > 2:
                    bench.shrink(name, *sorted(source.sample(range(code.length), 2)))
                elif move == 2:
                    bench.turn(name, mixed_up(code.length, source))
                elif move == 3 and code.length > 2:
                    bench.put(name, source.choice(neighbours(code)))
                elif move == 4 and code.length < 8:
                    bench.unite(source.choice("abcd"), name, source.choice([one for one in bench.names
                                                                            if bench.code_of(one).length < 8]))
                else:
                    bench.put(name, code_by(8, source.randrange(135)))
                seen.append(self.shown(bench))
                for one in bench.names:
                    self.check_code(bench.code_of(one))
                for pair in itertools.product(bench.names, repeat=2):
                    self.check_two(bench, *pair)
            for place in reversed(seen[:-1]):
                bench.undo()
                self.assertEqual(self.shown(bench), place)
            for place in seen[1:]:
                bench.redo()
                self.assertEqual(self.shown(bench), place)

    def shown(self, bench):
        return [(name, bench.code_of(name).length, bench.code_of(name).basis) for name in bench.names], str(bench)

    def test_a_walk_by_a_bench_is_a_shortest_way(self):
        for one, other in ((PLAIN, told(8)[70][1]), (LISTS[12][0], STRIP), (SIXTEEN[0], LONG_STRIP)):
            bench = Bench()
            bench.put("here", one)
            bench.put("goal", other)
            steps = bench.apart("here", "goal")
            for left in range(steps, 0, -1):
                self.assertEqual(bench.apart("here", "goal"), left)
                span = naive.sums(bench.code_of("here").basis)
                bench.step("here", next(word for word in other.basis if word not in span))
            self.assertEqual(bench.code_of("here"), other)
            self.assertEqual(str(bench), f"bench of 2 codes, {steps + 2} edits")


class CosetsAndParents(unittest.TestCase):
    """Cosets make parents, which come down to the code again, and claims about them."""

    def cases(self):
        return [code for length in (2, 4, 6) for _, code in told(length)] + [PLAIN, EIGHT, MIXED] + some(251, (8, 10), 3)

    def test_parents_come_down_again(self):
        for code in self.cases():
            length, span = code.length, naive.sums(code.basis)
            found = parents(code)
            seen = []
            for parent in found:
                self.assertEqual(child(parent, length, length + 1), code)
                if digit_of(parent) == 0:
                    self.assertEqual(counts_of(parent), times(counts_of(code), (1, 0, 1)))
                    self.assertEqual(parent, side_by_side((code, PAIR)))
                    continue
                # a word with 1 at just one of the new places shows the coset
                rest = next(word for word in naive.sums(parent.basis) if word >> length in (1, 2)) % 2 ** length
                coset = coset_of(code, rest)
                self.assertEqual({word ^ coset[0] for word in coset}, set(span))
                self.assertEqual(coset[0], word_with(code, products_of(code, rest)))
                self.assertEqual(parent_counts(code, rest), counts_of(parent))
                self.assertEqual(coset_counts(code, rest), naive.counts(length, coset))
                seen.append(coset[0])
            self.assertEqual(sorted(seen), sorted(2 * [word for word in leaders_of(code) if naive.ones(word) % 2]))

    def test_claims_about_cosets(self):
        for code in self.cases()[::2]:
            span = naive.sums(code.basis)
            for head in leaders(code):
                claim, paper = answered(("in", code, head))
                self.assertEqual(claim[0], "in" if head in span else "out")
                self.assertIs(takes(claim, paper), True)
                if head not in span:
                    # the word and the code: held by an own code just if the products are even, which they are not
                    more = Code(code.length, code.basis + (head,))
                    self.assertEqual(answered(("held", more))[0][0], "barred")
                    self.assertEqual(around_or_odd(more)[0], "odd")
                    self.assertEqual(answered(("own", more))[0][0], "foreign")
                    if naive.ones(head) % 2 == 0:
                        one = neighbour(code, head)
                        self.assertIs(takes(("near", code, one, 1), shared(code, one).basis), True)
                        self.assertEqual(answered(("far", code, one, 0))[0][0], "far")

    def test_parents_and_neighbours(self):
        for code in self.cases()[::3]:
            found = parents(code)
            for one, other in list(itertools.combinations(found, 2))[:30]:
                claim, paper = answered(("near", one, other, 1))
                self.assertEqual(claim[0], "near" if distance(one, other) == 1 else "far")
                self.assertIs(takes(claim, paper), True)


def leaders_of(code):
    """The remainders, from the least words of all cosets."""
    span = naive.sums(code.basis)
    return sorted({min(word ^ one for one in span) for word in range(2 ** code.length)} if code.length < 9 else
                  {word_with(code, bits) for bits in itertools.product((0, 1), repeat=code.dimension)})


class Untrue(unittest.TestCase):
    """[0.20]"""

    def test_equal_counts_and_not_alike(self):
        one, other = SIXTEEN[4], LONG_STRIP
        self.assertEqual(counts_of(one), counts_of(other))
        self.assertIsNone(exchange_or_none(one, other))

    def test_a_neighbour_that_is_not_by_fours(self):
        self.assertIs(is_by_fours(EIGHT), True)
        self.assertEqual({is_by_fours(one) for one in neighbours(EIGHT)}, {True, False})

    def test_a_neighbour_that_falls_apart(self):
        self.assertIs(is_unsplit(EIGHT), True)
        self.assertEqual({is_unsplit(one) for one in neighbours(EIGHT)}, {True, False})

    def test_as_many_codes_as_kinds_and_not_all_kinds(self):
        pair = (PLAIN, next(code for code in codes(8) if code != PLAIN and not is_by_fours(code)))
        self.assertEqual((is_list(pair), len(pair)), (True, len(kinds_of(8))))
        self.assertEqual((is_kinds_of(8, pair), is_kinds_of(8, (PLAIN, EIGHT))), (False, True))
        self.assertIsNone(kind_in(pair, EIGHT))


if __name__ == "__main__":
    unittest.main()
