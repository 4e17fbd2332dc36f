"""Codes that several tests look at: all of a short length, and own codes of each kind of the lengths to 16."""

import functools
import random

from ownchecks.code.codes import Code
from ownchecks.near.every import code_by, count_of
from tests import naive

PAIR = Code(2, (3,))
PLAIN = Code(8, (3, 12, 48, 192))
EIGHT = Code(8, (15, 51, 85, 150))
MIXED = Code(10, (3, 60, 204, 340, 600))
STRIP = Code(12, (15, 60, 240, 960, 3840, 1365))
SEVENS = Code(14, (15, 51, 85, 1920, 6528, 10880, 16383))
LONG_STRIP = Code(16, tuple(15 * 4 ** at for at in range(7)) + (21845,))
TWO_STRIPS = Code(16, (15, 60, 240, 3840, 15360, 61440, 853, 21763))
# the lightest words but 0 have the weight 8
GOLAY = Code(24, (255, 3855, 13107, 21845, 38505, 197462, 329059, 591418, 1118584, 2167325, 4265038, 8460068))


def small_codes(least, most):
    """Triples of a length, a span and its code: all of these lengths."""
    for length in range(least, most + 1):
        for span in naive.spans(length):
            yield length, span, Code(length, naive.basis(span))


@functools.lru_cache(None)
def told(length):
    """Pairs of a set of words and its code: all own codes of the length."""
    return tuple((span, Code(length, naive.basis(span))) for span in naive.own_codes(length))


def plain(length):
    """The plain code: pairs of places, side by side."""
    return Code(length, tuple(3 << place for place in range(0, length, 2)))


def beside(*codes):
    """The sum of the codes, one behind the other."""
    words, length = [], 0
    for code in codes:
        words += [word * 2 ** length for word in code.basis]
        length += code.length
    return Code(length, tuple(words))


# the codes of the length 16 fall into these kinds, and no others
SIXTEEN = (beside(*[PAIR] * 8), beside(*[PAIR] * 4, EIGHT), beside(PAIR, PAIR, STRIP), beside(PAIR, SEVENS),
           beside(EIGHT, EIGHT), LONG_STRIP, TWO_STRIPS)

# one code of each kind of each length, told by hand
LISTS = {2: (PAIR,), 4: (plain(4),), 6: (plain(6),), 8: (PLAIN, EIGHT), 10: (plain(10), MIXED),
         12: (plain(12), beside(PAIR, PAIR, EIGHT), STRIP),
         14: (plain(14), beside(PAIR, PAIR, PAIR, EIGHT), beside(PAIR, STRIP), SEVENS)}


def some(seed, lengths, many):
    """Own codes of these lengths, so many of each, made from the seed alone."""
    source = random.Random(seed)
    return [code_by(length, source.randrange(count_of(length))) for length in lengths for _ in range(many)]


def mixed_up(length, source):
    """Any exchange of so many places."""
    exchange = list(range(length))
    source.shuffle(exchange)
    return tuple(exchange)
