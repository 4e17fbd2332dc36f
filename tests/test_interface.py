"""The interface: names, arguments, constants, attributes, and the file in which each name is defined."""

import inspect
import unittest

from ownchecks.base import spans
from ownchecks.bench import bench
from ownchecks.bench.bench import Bench
from ownchecks.code import codes, cosets
from ownchecks.code.codes import Code
from ownchecks.four import families, shades, shadows
from ownchecks.judge import claims
from ownchecks.kinds import masses, tables
from ownchecks.near import averages, every, neighbours, within
from ownchecks.same import exchanges, fours, glue, parts
from ownchecks.text import texts
from ownchecks.weigh import counts, designs, two

SPANS = {
    "is_word": ["length", "value"],
    "weight": ["word"],
    "product": ["one", "other"],
    "places_of": ["word"],
    "word_of": ["places"],
    "basis_of": ["length", "words"],
    "free_places": ["length", "words"],
    "remainder_of": ["length", "words", "word"],
    "span_of": ["length", "words"],
    "parts_or_check": ["length", "words", "word"],
    "is_parts_or_check": ["length", "words", "word", "value"],
    "checks_of": ["length", "words"],
    "sum_of": ["length", "words", "others"],
    "meet_of": ["length", "words", "others"],
    "binomial": ["many", "few"],
}
CODES = {
    "dual": ["code"],
    "even_part": ["code"],
    "is_own": ["code"],
    "has_word": ["code", "value"],
    "does_hold": ["one", "other"],
    "own_or_shown": ["code"],
    "is_own_or_shown": ["code", "value"],
    "words_of": ["code"],
    "part_on": ["code", "lot"],
    "trace_on": ["code", "lot"],
}
COUNTS = {
    "signs": ["length", "weight", "other"],
    "counts_of": ["code"],
    "dual_counts": ["code"],
    "coset_counts": ["code", "word"],
    "transformed": ["counts"],
    "least_weight": ["code"],
    "words_of_weight": ["code", "weight"],
    "zero_lots": ["counts", "many"],
    "dual_or_weight": ["counts"],
}
NEIGHBOURS = {
    "neighbour": ["code", "word"],
    "neighbours": ["code"],
    "distance": ["one", "other"],
    "shared": ["one", "other"],
    "steps_from": ["one", "other"],
    "nearer": ["one", "other"],
    "way": ["one", "other"],
    "is_way": ["one", "other", "value"],
    "ways_count": ["length", "steps"],
}
EVERY = {
    "child": ["code", "one", "other"],
    "parent": ["code", "digit"],
    "parents": ["code"],
    "digit_of": ["code"],
    "address_of": ["code"],
    "code_at": ["address"],
    "number_of": ["code"],
    "code_by": ["length", "number"],
    "count_of": ["length"],
    "count_at": ["length", "steps"],
    "codes": ["length"],
}
EXCHANGES = {
    "is_exchange": ["length", "value"],
    "backward": ["exchange"],
    "one_behind": ["one", "other"],
    "led_word": ["exchange", "word"],
    "exchanged": ["code", "exchange"],
    "does_keep": ["code", "exchange"],
    "exchange_or_none": ["one", "other"],
    "is_exchange_or_none": ["one", "other", "value"],
    "tower_of": ["code"],
    "order_of": ["code"],
    "alike_count": ["code"],
    "climb_of": ["code"],
    "is_climb": ["code", "value"],
    "orbits_of": ["code"],
    "through": ["code", "place"],
    "through_two": ["code", "place", "other"],
}
PARTS = {
    "gap_at": ["code", "lot"],
    "split_or_word": ["code", "lot"],
    "is_split_or_word": ["code", "lot", "value"],
    "ties": ["code"],
    "unsplit_lots": ["code"],
    "unsplit_parts": ["code"],
    "is_unsplit": ["code"],
    "side_by_side": ["codes"],
    "summed_at": ["lots", "codes"],
}
FOURS = {
    "pairs_of": ["code"],
    "fours_of": ["code"],
    "told_lots": ["code"],
    "bare_places": ["code"],
    "fingerprint": ["code"],
    "twins_of": ["code", "lot"],
    "pattern": ["kind", "many"],
    "laying": ["code", "lot"],
    "is_laying": ["code", "lot", "value"],
    "are_alike_by_fours": ["one", "other"],
}
MASSES = {
    "is_list": ["value"],
    "mass_of": ["code"],
    "unlike_or_alike": ["codes"],
    "is_unlike_or_alike": ["codes", "value"],
    "masses_of": ["codes"],
    "complete_or_lacks": ["codes"],
    "is_complete_or_lacks": ["codes", "value"],
    "weighed_counts": ["codes"],
    "kind_in": ["codes", "code"],
    "kinds_of": ["length"],
    "is_kinds_of": ["length", "value"],
}
TABLES = {
    "table_of": ["codes"],
    "distance_table": ["codes", "far"],
    "walk_table": ["codes", "steps"],
    "worths": ["length"],
    "worth_numbers": ["codes"],
    "rows_for": ["codes", "place"],
    "kinds_apart": ["codes", "one", "other"],
    "nearest": ["codes", "one", "other"],
    "is_nearest": ["codes", "one", "other", "value"],
}
TWO = {
    "two_row": ["length", "j"],
    "four_row": ["length", "j"],
    "row_by": ["length", "parts"],
    "four_row_by": ["length", "parts"],
    "parts_or_weight": ["counts"],
    "four_parts_or_weight": ["counts"],
    "parts_of": ["code"],
    "row_by_light": ["length", "light"],
    "four_row_by_light": ["length", "light"],
    "barest": ["length"],
    "four_barest": ["length"],
}
FAMILIES = {
    "is_by_fours": ["code"],
    "fours_or_word": ["code"],
    "is_fours_or_word": ["code", "value"],
    "half": ["code"],
    "count_by_fours": ["length"],
    "count_by_fours_at": ["length", "distance"],
    "eights": ["length"],
    "fours_neighbour": ["code", "word"],
    "neighbours_by_fours": ["code"],
    "are_one_family": ["one", "other"],
    "way_by_fours": ["one", "other"],
    "is_way_by_fours": ["one", "other", "value"],
}
SHADOWS = {
    "shadow_or_word": ["code", "word"],
    "is_shadow_or_word": ["code", "word", "value"],
    "least_shadow": ["code"],
    "shadow": ["code"],
    "quarters": ["code"],
    "quarter_of": ["code", "word"],
    "quarter_products": ["length"],
}
SHADES = {
    "shadow_counts": ["code"],
    "counts_or_weight": ["length", "parts"],
    "is_counts_or_weight": ["length", "parts", "value"],
    "beside": ["code"],
    "raised": ["code"],
}
GLUE = {
    "parts_span": ["code", "lots"],
    "glue": ["code", "lots"],
    "glue_dimension": ["code", "lots"],
    "parted_word": ["code", "lots", "word"],
    "mate_or_odd": ["code", "lot", "word"],
    "is_mate_or_odd": ["code", "lot", "word", "value"],
    "least_mate": ["code", "lot", "word"],
    "put_together": ["length", "lots", "within", "glued"],
    "is_put_together": ["length", "lots", "within", "glued", "value"],
}
AVERAGES = {
    "count_with": ["length", "word"],
    "mean_counts": ["length"],
    "lighter": ["code", "bound"],
    "lighter_in_all": ["length", "bound"],
    "does_clear": ["length", "bound"],
    "neighbour_sum": ["code", "bound"],
    "clearing": ["code", "bound"],
    "is_clearing": ["code", "bound", "value"],
}
WITHIN = {
    "around_or_odd": ["inner"],
    "is_around_or_odd": ["inner", "value"],
    "first_around": ["inner"],
    "count_around": ["inner"],
    "codes_around": ["inner"],
    "is_between": ["one", "other", "value"],
    "between_by": ["one", "other", "inner"],
    "count_between": ["one", "other", "steps"],
    "codes_between": ["one", "other"],
}
DESIGNS = {
    "times_at": ["code", "weight", "lot"],
    "spread_or_lots": ["code", "weight", "t"],
    "is_spread_or_lots": ["code", "weight", "t", "value"],
    "most_spread": ["code", "weight"],
    "is_sure": ["code", "t"],
    "meetings": ["code", "weight", "word"],
}
COSETS = {
    "coset_of": ["code", "word"],
    "products_of": ["code", "word"],
    "word_with": ["code", "bits"],
    "leader": ["code", "word"],
    "is_leader": ["code", "value"],
    "nearest": ["code", "word"],
    "leaders": ["code"],
    "least_weights": ["code"],
    "signed_counts": ["code", "word"],
    "radius": ["code"],
    "farthest": ["code"],
    "parent_counts": ["code", "word"],
}
TEXTS = {
    "code_text": ["code"],
    "words_text": ["length", "words"],
    "exchange_text": ["exchange"],
    "counts_text": ["counts"],
    "read_code": ["text"],
    "read_words": ["text"],
    "read_exchange": ["text"],
    "read_counts": ["text"],
}
CLAIMS = {
    "is_claim": ["value"],
    "opposite": ["claim"],
    "takes": ["claim", "paper"],
    "answered": ["claim"],
}
METHODS = {
    "put": ["name", "code"],
    "drop": ["name"],
    "step": ["name", "word"],
    "turn": ["name", "exchange"],
    "grow": ["name", "digit"],
    "shrink": ["name", "one", "other"],
    "unite": ["new", "name", "other"],
    "undo": [],
    "redo": [],
    "code_of": ["name"],
    "ask": ["name", "other"],
    "known": ["name", "other"],
    "apart": ["name", "other"],
}
MODULES = ((spans, SPANS), (codes, CODES), (counts, COUNTS), (neighbours, NEIGHBOURS), (every, EVERY),
           (exchanges, EXCHANGES), (parts, PARTS), (fours, FOURS), (masses, MASSES), (tables, TABLES),
           (two, TWO), (families, FAMILIES), (shadows, SHADOWS), (shades, SHADES),
           (glue, GLUE), (averages, AVERAGES), (within, WITHIN), (designs, DESIGNS), (cosets, COSETS), (texts, TEXTS),
           (claims, CLAIMS))


class Interface(unittest.TestCase):
    def test_functions(self):
        for module, listed in MODULES:
            for name, arguments in listed.items():
                told = getattr(module, name)
                self.assertTrue(inspect.isfunction(told), name)
                self.assertEqual(told.__module__, module.__name__, name)
                self.assertEqual(told.__name__, name)
                parameters = inspect.signature(told).parameters.values()
                self.assertEqual([one.name for one in parameters], arguments, name)
                self.assertEqual({one.default for one in parameters}, {inspect.Parameter.empty}, name)

    def test_constants(self):
        self.assertEqual([spans.MOST_LENGTH, spans.MOST_WORDS, spans.MOST_SPANNED, codes.MOST_LISTED], [24, 64, 12, 12])
        self.assertEqual([counts.MOST_WORDS, exchanges.MOST_LENGTH], [4096, 16])
        self.assertEqual([masses.MOST_LENGTH, masses.MOST_CODES, tables.MOST_STEPS], [14, 8, 60])
        self.assertEqual([within.MOST_LISTED, designs.MOST_TOGETHER], [135, 5])
        self.assertEqual([cosets.MOST_COSETS, texts.MOST_TEXT, bench.MOST_CODES, bench.MOST_NAME], [16, 10000, 12, 8])
        self.assertEqual(fours.KINDS, ("eight", "pair", "seven", "strip"))

    def test_class(self):
        self.assertTrue(inspect.isclass(Code))
        self.assertEqual(Code.__module__, "ownchecks.code.codes")
        self.assertEqual(list(inspect.signature(Code).parameters), ["length", "words"])
        for name in ("length", "basis", "dimension"):
            self.assertIsInstance(vars(Code)[name], property)
        for name in ("__init__", "__eq__", "__str__"):
            self.assertTrue(inspect.isfunction(vars(Code)[name]), name)

    def test_bench(self):
        self.assertTrue(inspect.isclass(Bench))
        self.assertEqual(Bench.__module__, "ownchecks.bench.bench")
        self.assertEqual(list(inspect.signature(Bench).parameters), [])
        for name, arguments in METHODS.items():
            told = vars(Bench)[name]
            self.assertTrue(inspect.isfunction(told), name)
            parameters = list(inspect.signature(told).parameters.values())
            self.assertEqual([one.name for one in parameters], ["self"] + arguments, name)
            self.assertEqual({one.default for one in parameters}, {inspect.Parameter.empty}, name)
        self.assertIsInstance(vars(Bench)["names"], property)
        for name in ("__init__", "__contains__", "__len__", "__eq__", "__str__"):
            self.assertTrue(inspect.isfunction(vars(Bench)[name]), name)

    def test_kinds_of_answers(self):
        for answer, kind in ((spans.weight(3), int), (spans.product(1, 1), int), (spans.word_of((1,)), int),
                             (spans.remainder_of(2, (3,), 2), int), (spans.binomial(3, 2), int)):
            self.assertIs(type(answer), kind)
        for answer in (spans.places_of(5), spans.basis_of(3, (5, 3)), spans.free_places(3, (5,)),
                       spans.span_of(3, (5,)), spans.checks_of(3, (5,)), spans.sum_of(3, (5,), (1,)),
                       spans.meet_of(3, (5,), (5, 1)), spans.parts_or_check(3, (5,), 5),
                       spans.parts_or_check(3, (5,), 5)[1], spans.parts_or_check(3, (5,), 1),
                       codes.words_of(Code(2, (3,))), Code(2, (3,)).basis, codes.own_or_shown(Code(2, (3,)))):
            self.assertIs(type(answer), tuple)
        some = Code(4, (3, 6))
        for answer in (codes.dual(some), codes.even_part(some), codes.part_on(some, (0, 2)),
                       codes.trace_on(some, (0, 2))):
            self.assertIs(type(answer), Code)

    def test_kinds_of_later_answers(self):
        own, other = Code(4, (3, 12)), Code(4, (5, 10))
        for answer in (counts.signs(4, 2, 2), counts.least_weight(own), counts.zero_lots((1, 0), 1),
                       neighbours.distance(own, other), neighbours.ways_count(4, 1), every.digit_of(own),
                       every.number_of(other), every.count_of(4), every.count_at(4, 1), exchanges.led_word((1, 0), 2),
                       exchanges.order_of(own), exchanges.alike_count(own)):
            self.assertIs(type(answer), int)
        for answer in (counts.counts_of(own), counts.dual_counts(own), counts.coset_counts(own, 1),
                       counts.transformed((1, 0)), counts.words_of_weight(own, 2), counts.dual_or_weight((1, 1)),
                       counts.dual_or_weight((1, 1))[1], counts.dual_or_weight((1, 2)), neighbours.neighbours(own),
                       neighbours.steps_from(own, other), neighbours.nearer(own, other), neighbours.way(own, other),
                       every.parents(own), every.address_of(own), exchanges.backward((0,)),
                       exchanges.one_behind((0,), (0,)), exchanges.exchange_or_none(own, other),
                       exchanges.tower_of(own), exchanges.tower_of(own)[0], exchanges.climb_of(own),
                       exchanges.climb_of(own)[0], exchanges.climb_of(own)[0][0], exchanges.orbits_of(own),
                       exchanges.orbits_of(own)[0], exchanges.through(own, 0), exchanges.through_two(own, 0, 1)):
            self.assertIs(type(answer), tuple)
        for answer in (neighbours.neighbour(own, 5), neighbours.shared(own, other), neighbours.way(own, other)[1],
                       every.child(own, 0, 2), every.parent(own, 1), every.code_at((1,)), every.code_by(4, 2),
                       exchanges.exchanged(own, (1, 2, 3, 0))):
            self.assertIs(type(answer), Code)
        self.assertTrue(inspect.isgenerator(every.codes(4)))

    def test_kinds_of_answers_about_kinds(self):
        own, other = Code(4, (3, 12)), Code(4, (5, 10))
        for answer in (parts.gap_at(own, (0,)), masses.mass_of(own), masses.kind_in((own,), other),
                       tables.kinds_apart((own,), 0, 0)):
            self.assertIs(type(answer), int)
        for answer in (parts.split_or_word(own, (0, 1)), parts.split_or_word(own, (0, 2)), parts.ties(own),
                       parts.ties(own)[0], parts.unsplit_lots(own), parts.unsplit_lots(own)[0],
                       parts.unsplit_parts(own), fours.pairs_of(own), fours.fours_of(own), fours.told_lots(own),
                       fours.told_lots(own)[0], fours.told_lots(own)[0][1], fours.bare_places(own),
                       fours.fingerprint(own), fours.fingerprint(own)[0], fours.laying(own, (0, 1)),
                       masses.unlike_or_alike((own,)), masses.unlike_or_alike((own, other)),
                       masses.unlike_or_alike((own, other))[3], masses.masses_of((own,)),
                       masses.complete_or_lacks((own,)), masses.complete_or_lacks((own,))[1],
                       masses.weighed_counts((own,)), masses.kinds_of(4), tables.table_of((own,)),
                       tables.table_of((own,))[0], tables.distance_table((own,), 1),
                       tables.distance_table((own,), 1)[0], tables.walk_table((own,), 2),
                       tables.walk_table((own,), 0)[0], tables.worths(4), tables.worth_numbers((own,)),
                       tables.rows_for((own,), 0), tables.rows_for((own,), 0)[0]):
            self.assertIs(type(answer), tuple)
        for answer in (parts.unsplit_parts(own)[0], parts.side_by_side((own,)), parts.summed_at(((0, 1, 2, 3),), (own,)),
                       fours.pattern("strip", 4), masses.complete_or_lacks((Code(8, (15, 51, 85, 150)),))[1],
                       masses.kinds_of(4)[0], tables.nearest((own,), 0, 0)):
            self.assertIs(type(answer), Code)

    def test_kinds_of_answers_about_fours(self):
        own, eight = Code(4, (3, 12)), Code(8, (15, 51, 85, 150))
        other = families.fours_neighbour(eight, 3)
        for answer in (families.count_by_fours(8), families.count_by_fours(7), families.count_by_fours_at(8, 2),
                       families.count_by_fours_at(4, 2), shadows.least_shadow(own), shadows.quarter_of(own, 3)):
            self.assertIs(type(answer), int)
        for answer in (two.two_row(4, 0), two.four_row(8, 0), two.row_by(4, (1,)), two.four_row_by(8, (1,)),
                       two.parts_or_weight((1, 0, 1)), two.parts_or_weight((1, 0, 1))[1], two.parts_of(own),
                       two.four_parts_or_weight((0,) * 9)[1], two.row_by_light(4, (1,)), two.four_row_by_light(8, (1,)),
                       two.barest(4), two.four_barest(8), families.fours_or_word(own), families.fours_or_word(eight),
                       families.neighbours_by_fours(eight), families.way_by_fours(eight, other),
                       shadows.shadow_or_word(own, 1), shadows.shadow_or_word(own, 5), shadows.shadow(own),
                       shadows.quarters(own), shadows.quarter_products(4), shadows.quarter_products(4)[1],
                       shades.shadow_counts(own), shades.counts_or_weight(4, (1,)), shades.counts_or_weight(4, (1,))[1],
                       shades.beside(own), shades.raised(own)):
            self.assertIs(type(answer), tuple)
        for answer in (families.half(own), families.eights(8), other, families.neighbours_by_fours(eight)[0],
                       families.way_by_fours(eight, other)[1], shades.beside(own)[0], shades.raised(own)[1]):
            self.assertIs(type(answer), Code)

    def test_kinds_of_answers_about_glue_and_means(self):
        own, eight, lots = Code(4, (3, 12)), Code(8, (15, 51, 85, 150)), ((0, 2), (1, 3))
        for answer in (glue.glue_dimension(own, lots), glue.least_mate(own, (0, 2), 1), averages.count_with(4, 3),
                       averages.lighter(own, 4), averages.lighter_in_all(4, 4), averages.neighbour_sum(own, 4),
                       within.count_around(own), within.count_around(Code(4, (1,))), within.count_between(own, own, 0),
                       designs.times_at(own, 2, (0,)), designs.most_spread(own, 2)):
            self.assertIs(type(answer), int)
        for answer in (glue.parts_span(own, lots), glue.glue(own, lots), glue.parted_word(own, lots, 3),
                       glue.mate_or_odd(own, (0, 2), 1), glue.put_together(4, lots, (), ()),
                       averages.mean_counts(4), averages.mean_counts(4)[2], averages.clearing(own, 4),
                       averages.clearing(own, 4)[1], within.around_or_odd(own), within.codes_around(own),
                       within.codes_around(Code(4, (1,))), within.codes_between(own, own), designs.meetings(own, 2, 1),
                       designs.spread_or_lots(own, 2, 1), designs.spread_or_lots(own, 2, 2),
                       designs.spread_or_lots(own, 2, 2)[1]):
            self.assertIs(type(answer), tuple)
        for answer in (glue.put_together(4, lots, (), (3, 12))[1], averages.clearing(eight, 4)[1][0],
                       within.around_or_odd(own)[1], within.first_around(own), within.codes_around(own)[0],
                       within.between_by(own, own, own), within.codes_between(own, own)[0]):
            self.assertIs(type(answer), Code)

    def test_kinds_of_the_last_answers(self):
        own, eight = Code(4, (3, 12)), Code(8, (15, 51, 85, 150))
        for answer in (cosets.word_with(own, (0, 1)), cosets.leader(own, 1), cosets.radius(own), cosets.farthest(own)):
            self.assertIs(type(answer), int)
        for answer in (cosets.coset_of(own, 1), cosets.products_of(own, 1), cosets.nearest(own, 1), cosets.leaders(own),
                       cosets.least_weights(own), cosets.signed_counts(own, 1), cosets.parent_counts(own, 1),
                       texts.read_words("words 2\nend\n"), texts.read_words("words 2\n  01\nend\n")[1],
                       texts.read_exchange("exchange 0\n"), texts.read_counts("counts 0 1\n"),
                       claims.opposite(("own", own)), claims.answered(("own", own)), claims.answered(("own", own))[0],
                       claims.answered(("unsplit", eight))[1], claims.answered(("unsplit", eight))[1][0],
                       claims.answered(("near", own, own, 0))[1], claims.answered(("two", (1, 0, 1)))[1]):
            self.assertIs(type(answer), tuple)
        for answer in (texts.code_text(own), texts.words_text(2, ()), texts.exchange_text((0,)), texts.counts_text((1, 0))):
            self.assertIs(type(answer), str)
        for answer in (texts.read_code("code 1\nend\n"), claims.answered(("held", own))[1]):
            self.assertIs(type(answer), Code)


if __name__ == "__main__":
    unittest.main()
