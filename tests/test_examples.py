"""The examples of the document, as they stand there."""

import unittest

from ownchecks.base.spans import basis_of, binomial, checks_of, free_places, is_parts_or_check, is_word, meet_of
from ownchecks.base.spans import parts_or_check, places_of, product, remainder_of, span_of, sum_of, weight, word_of
from ownchecks.code.codes import Code, does_hold, dual, even_part, has_word, is_own, is_own_or_shown
from ownchecks.code.codes import own_or_shown, part_on, trace_on, words_of
from ownchecks.errors import InvalidWord

PLAIN = Code(8, (3, 12, 48, 192))
EIGHT = Code(8, (15, 51, 85, 150))


class SpanExamples(unittest.TestCase):
    def test_words(self):
        self.assertEqual([weight(11), product(11, 7), product(11, 11), places_of(11), word_of((0, 1, 3))],
                         [3, 0, 1, (0, 1, 3), 11])
        self.assertIs(is_word(3, 8), False)
        self.assertIs(is_word(4, True), False)

    def test_one_basis(self):
        self.assertEqual([basis_of(4, (3, 5, 6)), free_places(4, (3, 5, 6)), remainder_of(4, (3, 5, 6), 13)],
                         [(5, 3), (0, 3), 8])
        self.assertEqual([span_of(4, (3, 5, 6)), basis_of(4, (0,))], [(0, 3, 5, 6), ()])

    def test_either_or(self):
        self.assertEqual(parts_or_check(4, (3, 5), 6), ("parts", (0, 1)))
        self.assertIs(is_parts_or_check(4, (3, 5, 6), 6, ("parts", (2,))), True)
        self.assertIs(is_parts_or_check(4, (3, 5), 8, ("check", 15)), True)
        self.assertIs(is_parts_or_check(4, (3, 5), 8, ("check", 9)), False)
        self.assertEqual([checks_of(4, (3, 5, 6)), checks_of(2, ())], [(8, 7), (2, 1)])

    def test_together(self):
        self.assertEqual([sum_of(4, (3,), (5, 9)), meet_of(4, (3, 12), (5, 10))], [(9, 5, 3), (15,)])
        self.assertEqual([binomial(3, 1), binomial(4, 2), binomial(2, 3)], [7, 35, 0])

    def test_refused(self):
        with self.assertRaises(InvalidWord):
            weight(-1)


class CodeExamples(unittest.TestCase):
    def test_codes(self):
        self.assertEqual([PLAIN.basis, EIGHT.basis, EIGHT.dimension, str(EIGHT)],
                         [(192, 48, 12, 3), (150, 85, 51, 15), 4, "code of length 8, dimension 4"])
        self.assertIs(has_word(EIGHT, 90), True)
        self.assertIs(has_word(EIGHT, 3), False)

    def test_duals(self):
        self.assertIs(is_own(EIGHT), True)
        self.assertEqual([dual(Code(4, (3,))).basis, dual(Code(3, ())).basis, even_part(Code(3, (1, 2))).basis],
                         [(8, 4, 3), (4, 2, 1), (3,)])
        self.assertIs(does_hold(PLAIN, Code(8, (15,))), True)

    def test_own_or_shown(self):
        self.assertEqual(own_or_shown(PLAIN), ("own",))
        self.assertIs(is_own_or_shown(Code(4, (3,)), ("outside", 12)), True)
        self.assertIs(is_own_or_shown(Code(2, (1,)), ("odd", 1, 1)), True)
        self.assertIs(is_own_or_shown(Code(2, (1,)), ("outside", 2)), True)
        self.assertEqual(words_of(Code(3, (6, 1))), (0, 1, 6, 7))

    def test_lots(self):
        self.assertEqual([part_on(EIGHT, (0, 1, 2, 3)).basis, trace_on(EIGHT, (0, 1, 2, 3)).basis], [(15,), (9, 5, 3)])
        self.assertEqual([part_on(EIGHT, (0, 1, 7)).basis, trace_on(EIGHT, (0, 1, 7)).basis], [(), (4, 2, 1)])


if __name__ == "__main__":
    unittest.main()
