"""The interface: names, arguments, constants, attributes, and the file in which each name is defined."""

import inspect
import unittest

from ownchecks.base import spans
from ownchecks.code import codes
from ownchecks.code.codes import Code

SPANS = {
    "is_word": ["length", "value"],
    "weight": ["word"],
    "product": ["one", "other"],
    "places_of": ["word"],
    "word_of": ["places"],
    "basis_of": ["length", "words"],
    "free_places": ["length", "words"],
    "remainder_of": ["length", "words", "word"],
    "span_of": ["length", "words"],
    "parts_or_check": ["length", "words", "word"],
    "is_parts_or_check": ["length", "words", "word", "value"],
    "checks_of": ["length", "words"],
    "sum_of": ["length", "words", "others"],
    "meet_of": ["length", "words", "others"],
    "binomial": ["many", "few"],
}
CODES = {
    "dual": ["code"],
    "even_part": ["code"],
    "is_own": ["code"],
    "has_word": ["code", "value"],
    "does_hold": ["one", "other"],
    "own_or_shown": ["code"],
    "is_own_or_shown": ["code", "value"],
    "words_of": ["code"],
    "part_on": ["code", "lot"],
    "trace_on": ["code", "lot"],
}


class Interface(unittest.TestCase):
    def test_functions(self):
        for module, listed in ((spans, SPANS), (codes, CODES)):
            for name, arguments in listed.items():
                told = getattr(module, name)
                self.assertTrue(inspect.isfunction(told), name)
                self.assertEqual(told.__module__, module.__name__, name)
                self.assertEqual(told.__name__, name)
                parameters = inspect.signature(told).parameters.values()
                self.assertEqual([one.name for one in parameters], arguments, name)
                self.assertEqual({one.default for one in parameters}, {inspect.Parameter.empty}, name)

    def test_constants(self):
        self.assertEqual([spans.MOST_LENGTH, spans.MOST_WORDS, spans.MOST_SPANNED, codes.MOST_LISTED], [24, 64, 12, 12])

    def test_class(self):
        self.assertTrue(inspect.isclass(Code))
        self.assertEqual(Code.__module__, "ownchecks.code.codes")
        self.assertEqual(list(inspect.signature(Code).parameters), ["length", "words"])
        for name in ("length", "basis", "dimension"):
            self.assertIsInstance(vars(Code)[name], property)
        for name in ("__init__", "__eq__", "__str__"):
            self.assertTrue(inspect.isfunction(vars(Code)[name]), name)

    def test_kinds_of_answers(self):
        for answer, kind in ((spans.weight(3), int), (spans.product(1, 1), int), (spans.word_of((1,)), int),
                             (spans.remainder_of(2, (3,), 2), int), (spans.binomial(3, 2), int)):
            self.assertIs(type(answer), kind)
        for answer in (spans.places_of(5), spans.basis_of(3, (5, 3)), spans.free_places(3, (5,)),
                       spans.span_of(3, (5,)), spans.checks_of(3, (5,)), spans.sum_of(3, (5,), (1,)),
                       spans.meet_of(3, (5,), (5, 1)), spans.parts_or_check(3, (5,), 5),
                       spans.parts_or_check(3, (5,), 5)[1], spans.parts_or_check(3, (5,), 1),
                       codes.words_of(Code(2, (3,))), Code(2, (3,)).basis, codes.own_or_shown(Code(2, (3,)))):
            self.assertIs(type(answer), tuple)
        some = Code(4, (3, 6))
        for answer in (codes.dual(some), codes.even_part(some), codes.part_on(some, (0, 2)),
                       codes.trace_on(some, (0, 2))):
            self.assertIs(type(answer), Code)


if __name__ == "__main__":
    unittest.main()
