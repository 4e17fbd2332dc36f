"""[0.7], [1.1], [1.6] and what is told of single words."""

import itertools
import unittest

from ownchecks.base.spans import basis_of, binomial, is_word, places_of, product, weight, word_of
from tests import naive

EVERY = 2 ** 24 - 1


class Words(unittest.TestCase):
    def test_words_are_the_integers_of_the_length(self):
        for length in range(1, 25):
            most = 2 ** length - 1
            for value in (0, 1, most // 2, most):
                self.assertIs(is_word(length, value), True)
            for value in (-1, -most, most + 1, 2 ** 24, 10 ** 60, 10 ** 5000, -10 ** 5000):
                self.assertIs(is_word(length, value), False)
        for length in range(1, 6):
            self.assertEqual([value for value in range(-40, 80) if is_word(length, value)], list(range(2 ** length)))

    def test_weights(self):
        for word in range(2 ** 12):
            self.assertEqual(weight(word), naive.ones(word))
        for place in range(24):
            self.assertEqual([weight(2 ** place), weight(2 ** place - 1), weight(EVERY - 2 ** place)], [1, place, 23])
        self.assertEqual([weight(0), weight(EVERY)], [0, 24])

    def test_weight_of_a_sum(self):
        for one, other in itertools.product(range(64), repeat=2):
            both = len([place for place in range(6) if one >> place & 1 and other >> place & 1])
            self.assertEqual(weight(one ^ other), weight(one) + weight(other) - 2 * both)
            if weight(one) % 2 == 0 and weight(other) % 2 == 0:
                self.assertEqual(weight(one ^ other) % 2, 0)

    def test_products(self):
        for one, other in itertools.product(range(64), repeat=2):
            both = [place for place in range(6) if one >> place & 1 and other >> place & 1]
            self.assertEqual(product(one, other), len(both) % 2)
        for place, other in itertools.product(range(24), repeat=2):
            self.assertEqual(product(2 ** place, 2 ** other), 1 if place == other else 0)
        self.assertEqual([product(EVERY, EVERY), product(EVERY, EVERY - 1), product(EVERY, 0)], [0, 1, 0])

    def test_a_word_is_even_with_itself_exactly_if_it_is_even(self):
        for word in range(2 ** 10):
            self.assertEqual(product(word, word), weight(word) % 2)

    def test_product_with_a_sum(self):
        for one, other, third in itertools.product(range(16), repeat=3):
            self.assertEqual(product(one, other ^ third), product(one, other) ^ product(one, third))
            self.assertEqual(product(one ^ other, third), product(one, third) ^ product(other, third))

    def test_places(self):
        for many in range(8):
            for places in itertools.combinations(range(7), many):
                word = sum(2 ** place for place in places)
                self.assertEqual(word_of(places), word)
                self.assertEqual(places_of(word), places)
        for places in ((23,), (0, 23), tuple(range(24)), (4, 11, 17, 22)):
            self.assertEqual(places_of(word_of(places)), places)
            self.assertEqual(word_of(places), sum(2 ** place for place in places))
        self.assertEqual([word_of(()), places_of(0), word_of(tuple(range(24)))], [0, (), EVERY])


class Binomials(unittest.TestCase):
    def test_how_many_spans(self):
        for many in range(6):
            found = [naive.dimension(span) for span in naive.spans(many)]
            for few in range(25):
                self.assertEqual(binomial(many, few), found.count(few))

    def test_spans_within_a_span_of_more_places(self):
        inner = naive.sums((9, 10, 20))
        found = {naive.sums(words) for words in itertools.product(sorted(inner), repeat=3)}
        self.assertEqual(len(basis_of(5, (9, 10, 20))), 3)
        for few in range(5):
            self.assertEqual(binomial(3, few), len([one for one in found if len(one) == 2 ** few]))

    def test_told_sentence(self):
        for many, few in itertools.product(range(25), repeat=2):
            if few == 0:
                expected = 1
            elif few > many:
                expected = 0
            else:
                expected = binomial(many - 1, few - 1) + 2 ** few * binomial(many - 1, few)
            self.assertEqual(binomial(many, few), expected)

    def test_as_a_quotient(self):
        for many in range(25):
            for few in range(many + 1):
                top = bottom = 1
                for at in range(few):
                    top *= 2 ** (many - at) - 1
                    bottom *= 2 ** (at + 1) - 1
                self.assertEqual(binomial(many, few) * bottom, top)

    def test_edges(self):
        self.assertEqual([binomial(0, 0), binomial(24, 0), binomial(24, 24), binomial(0, 24), binomial(23, 24)],
                         [1, 1, 1, 0, 0])
        self.assertEqual([binomial(24, 1), binomial(24, 23)], [2 ** 24 - 1, 2 ** 24 - 1])


if __name__ == "__main__":
    unittest.main()
