"""[6.3] to [6.5]: towers, orders, climbs, orbits, and words through places."""

import itertools
import math
import random
import unittest

from ownchecks.code.codes import Code
from ownchecks.errors import InvalidNumber, InvalidOperation, TooMany
from ownchecks.near.every import code_by, codes, count_of
from ownchecks.same.exchanges import climb_of, does_keep, exchanged, is_climb, orbits_of, order_of, through, through_two
from ownchecks.same.exchanges import alike_count, tower_of
from tests import naive
from tests.kinds import EIGHT, MIXED, PAIR, PLAIN, SEVENS, SIXTEEN, STRIP, plain, told

NAMED = (PAIR, PLAIN, EIGHT, MIXED, STRIP, SEVENS) + SIXTEEN


def looked_at():
    """Pairs of codes and of all exchanges that keep them: each exchange of the length was looked at."""
    for length in (2, 4, 6):
        for span, code in told(length):
            yield code, naive.keepers(length, span)
    for span, code in told(8)[::27]:
        yield code, naive.keepers(8, span)
    yield EIGHT, naive.keepers(8, naive.sums(EIGHT.basis))


def some(length, many):
    source = random.Random(length)
    for _ in range(many):
        yield code_by(length, source.randrange(count_of(length)))


class Towers(unittest.TestCase):
    def test_by_all_exchanges(self):
        for code, kept in looked_at():
            tower = []
            for place in range(code.length):
                holding = [one for one in kept if one[:place] == tuple(range(place))]
                tower.append(tuple(sorted({one[place] for one in holding})))
            self.assertEqual(tower_of(code), tuple(tower))
            self.assertEqual(order_of(code), len(kept))
            self.assertEqual(alike_count(code) * len(kept), math.factorial(code.length))

    def test_order_is_the_product_of_the_sizes(self):
        for code in NAMED + tuple(codes(8)) + tuple(some(10, 5)) + tuple(some(16, 5)):
            tower = tower_of(code)
            self.assertIs(type(tower), tuple)
            self.assertEqual(order_of(code), math.prod(len(images) for images in tower))
            for place, images in enumerate(tower):
                self.assertIs(type(images), tuple)
                self.assertEqual(list(images), sorted(set(images)))
                self.assertEqual(images[0], place)
                self.assertLess(images[-1], code.length)

    def test_told_orders(self):
        self.assertEqual([order_of(code) for code in NAMED],
                         [2, 384, 1344, 2688, 23040, 56448, 10321920, 516096, 184320, 112896, 3612672, 5160960, 73728])
        for half in range(1, 9):
            self.assertEqual(order_of(plain(2 * half)), 2 ** half * math.factorial(half))

    def test_each_exchange_is_made_in_one_way(self):
        for code, kept in looked_at():
            if code.length <= 6:
                made = []
                for row in itertools.product(*climb_of(code)):
                    both = tuple(range(code.length))
                    # the one for the last place first
                    for exchange in reversed(row):
                        both = tuple(exchange[place] for place in both)
                    made.append(both)
                self.assertEqual(sorted(made), sorted(kept))

    def test_alike_codes_have_equal_orders(self):
        source = random.Random(65)
        for code in NAMED:
            for _ in range(3):
                exchange = list(range(code.length))
                source.shuffle(exchange)
                led = exchanged(code, tuple(exchange))
                self.assertEqual(order_of(led), order_of(code))
                orbits = [tuple(sorted(exchange[place] for place in orbit)) for orbit in orbits_of(code)]
                self.assertEqual(orbits_of(led), tuple(sorted(orbits)))
                self.assertIs(is_climb(led, climb_of(led)), True)

    def test_lengths(self):
        self.assertEqual([tower_of(PAIR), climb_of(PAIR), orbits_of(PAIR)],
                         [((0, 1), (1,)), (((0, 1), (1, 0)), ((0, 1),)), ((0, 1),)])
        for length in (18, 20, 22, 24):
            code = plain(length)
            for call in (tower_of, order_of, alike_count, climb_of, orbits_of, lambda one: is_climb(one, ()),
                         lambda one: is_climb(one, None)):
                with self.assertRaises(TooMany) as caught:
                    call(code)
                self.assertEqual(caught.exception.limit, 16)


class Climbs(unittest.TestCase):
    def is_right(self, code, climb):
        span = naive.sums(code.basis)
        for place, (images, row) in enumerate(zip(tower_of(code), climb, strict=True)):
            for image, exchange in zip(images, row, strict=True):
                if sorted(exchange) != list(range(code.length)) or not naive.led_code(exchange, span) == span:
                    return False
                if exchange[:place] != tuple(range(place)) or exchange[place] != image:
                    return False
        return True

    def test_climbs(self):
        for code in NAMED + tuple(codes(6)) + tuple(codes(8))[::9] + tuple(some(10, 5)) + tuple(some(14, 3)):
            climb = climb_of(code)
            self.assertIs(type(climb), tuple)
            self.assertEqual({type(row) for row in climb}, {tuple})
            self.assertEqual([len(row) for row in climb], [len(images) for images in tower_of(code)])
            self.assertTrue(self.is_right(code, climb))
            self.assertIs(is_climb(code, climb), True)

    def test_all_exchanges_are_judged(self):
        for code in (PAIR, Code(4, (3, 12)), Code(4, (5, 10)), Code(6, (33, 18, 12))):
            tower, climb = tower_of(code), climb_of(code)
            kept = naive.keepers(code.length, naive.sums(code.basis))
            for place, images in enumerate(tower):
                for at, image in enumerate(images):
                    for exchange in itertools.permutations(range(code.length)):
                        row = climb[place][:at] + (exchange,) + climb[place][at + 1:]
                        value = climb[:place] + (row,) + climb[place + 1:]
                        expected = exchange in kept and exchange[:place + 1] == tuple(range(place)) + (image,)
                        self.assertIs(is_climb(code, value), expected)

    def test_any_climb_is_right(self):
        source = random.Random(66)
        kept = naive.keepers(8, naive.sums(EIGHT.basis))
        for _ in range(5):
            value = []
            for place, images in enumerate(tower_of(EIGHT)):
                holding = [one for one in kept if one[:place] == tuple(range(place))]
                value.append(tuple(source.choice([one for one in holding if one[place] == at]) for at in images))
            self.assertIs(is_climb(EIGHT, tuple(value)), True)

    def test_no_other_value_is_right(self):
        climb = climb_of(EIGHT)
        here = tuple(range(8))
        first = climb[0]
        for value in (None, True, 0, "climb", (), list(climb), {0: climb}, climb[:-1], climb + ((here,),), climb[::-1],
                      (climb,), ((),) * 8, (list(first),) + climb[1:], (first[:-1],) + climb[1:],
                      (first + (here,),) + climb[1:], (first[::-1],) + climb[1:], (None,) + climb[1:],
                      (here,) * 8, ((None,) * 8,) + climb[1:], (first[:-1] + (list(first[-1]),),) + climb[1:],
                      (first[:-1] + (first[-1] + (8,),),) + climb[1:], (first[:-1] + (first[-1][:-1],),) + climb[1:],
                      (first[:-1] + ((True,) + first[-1][1:],),) + climb[1:], (first[:1] * 8,) + climb[1:],
                      ((tuple(10 ** 5000 for _ in here),) * 8,) + climb[1:], 5000 * (here,), EIGHT,
                      climb[:7] + ((naive.swapped(8, 0, 1),),), climb[:7] + ((naive.swapped(8, 6, 7),),),
                      climb[:7] + (((False,) + here[1:],),), climb[:7] + ((here, here),), climb_of(PLAIN)):
            self.assertIs(is_climb(EIGHT, value), False)
        self.assertIs(is_climb(EIGHT, climb), True)
        self.assertIs(is_climb(EIGHT, climb[:7] + ((here,),)), True)

    def test_places_below_are_held(self):
        # it keeps the code and leads 6 to 7, but it does not hold 0
        climb = climb_of(PLAIN)
        self.assertEqual(tower_of(PLAIN)[6], (6, 7))
        exchange = (1, 0, 2, 3, 4, 5, 7, 6)
        self.assertIs(does_keep(PLAIN, exchange), True)
        self.assertIs(is_climb(PLAIN, climb[:6] + ((climb[6][0], exchange),) + climb[7:]), False)
        self.assertIs(is_climb(PLAIN, climb[:6] + ((climb[6][0], naive.swapped(8, 6, 7)),) + climb[7:]), True)


class Orbits(unittest.TestCase):
    def test_by_all_exchanges(self):
        for code, kept in looked_at():
            orbits = {tuple(sorted({one[place] for one in kept})) for place in range(code.length)}
            self.assertEqual(orbits_of(code), tuple(sorted(orbits)))

    def test_they_part_the_places(self):
        for code in NAMED + tuple(codes(8))[::5] + tuple(some(10, 9)) + tuple(some(16, 3)):
            orbits = orbits_of(code)
            self.assertEqual(sorted(place for orbit in orbits for place in orbit), list(range(code.length)))
            self.assertEqual(orbits, tuple(sorted(tuple(sorted(orbit)) for orbit in orbits)))
            for orbit in orbits:
                self.assertEqual(len({through(code, place) for place in orbit}), 1)

    def test_told_orbits(self):
        for code in (PAIR, PLAIN, EIGHT, STRIP, SEVENS, SIXTEEN[0], SIXTEEN[4], SIXTEEN[5], SIXTEEN[6]):
            self.assertEqual(orbits_of(code), (tuple(range(code.length)),))
        for code, many in zip(SIXTEEN[1:4], (8, 4, 2)):
            self.assertEqual(orbits_of(code), (tuple(range(many)), tuple(range(many, 16))))
        spread = exchanged(MIXED, (3, 0, 1, 2, 4, 5, 9, 7, 8, 6))
        self.assertEqual(orbits_of(spread), ((0, 3), (1, 2, 4, 5, 6, 7, 8, 9)))


class Through(unittest.TestCase):
    def test_places(self):
        for length in (2, 4, 6, 8):
            for span, code in told(length)[:40]:
                for place in range(length):
                    words = [word for word in span if word >> place & 1]
                    self.assertEqual(through(code, place), naive.counts(length, words))
                    for other in range(length):
                        if other != place:
                            both = [word for word in words if word >> other & 1]
                            self.assertEqual(through_two(code, place, other), naive.counts(length, both))

    def test_longer_codes(self):
        for length in (10, 16, 22, 24):
            for code in some(length, 2):
                span = naive.sums(code.basis)
                for place, other in ((0, 1), (length - 1, 0), (3, length - 2)):
                    words = [word for word in span if word >> place & 1]
                    self.assertEqual(through(code, place), naive.counts(length, words))
                    both = [word for word in words if word >> other & 1]
                    self.assertEqual(through_two(code, place, other), naive.counts(length, both))
                    self.assertEqual(through_two(code, other, place), through_two(code, place, other))

    def test_wrong_places(self):
        for code in (PAIR, PLAIN, plain(24)):
            for place in (-1, code.length, 25, True, None, 10 ** 60):
                for call in (lambda: through(code, place), lambda: through_two(code, place, 0),
                             lambda: through_two(code, 0, place), lambda: through_two(code, place, place)):
                    with self.assertRaises(InvalidNumber) as caught:
                        call()
                    self.assertIs(caught.exception.given, place)
            for place in range(code.length):
                with self.assertRaises(InvalidOperation):
                    through_two(code, place, place)


if __name__ == "__main__":
    unittest.main()
