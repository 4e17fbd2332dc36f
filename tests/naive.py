"""What the tests reckon by themselves: sets of words, gone through in full. Nothing of the package is used here."""

import functools
import itertools
import random


def ones(word):
    return bin(word).count("1")


def even(one, other):
    return ones(one & other) % 2 == 0


def total(words):
    out = 0
    for word in words:
        out = out ^ word
    return out


def sums(words):
    """All sums of some of the words, as a frozenset."""
    found = {0}
    for word in words:
        found = found | {word ^ one for one in found}
    return frozenset(found)


def highest(word):
    return max(place for place in range(25) if word >> place & 1)


def heads(span):
    return sorted({highest(word) for word in span if word})


def basis(span):
    """The basis by its definition: for each head the one word with this highest place, and 0 at all other heads."""
    tops = heads(span)
    out = []
    for top in reversed(tops):
        fitting = [word for word in span
                   if word and highest(word) == top
                   and not any(word >> other & 1 for other in tops if other != top)]
        assert len(fitting) == 1
        out.append(fitting[0])
    return tuple(out)


def dimension(span):
    many = len(span).bit_length() - 1
    assert len(span) == 2 ** many
    return many


def checks(length, span):
    return frozenset(word for word in range(2 ** length) if all(even(word, one) for one in span))


def spans(length):
    """All spans of words of the length, each one as a frozenset."""
    found = {frozenset({0})}
    latest = found
    while latest:
        latest = {one | {word ^ other for other in one}
                  for one in latest for word in range(2 ** length) if word not in one} - found
        found = found | latest
    return sorted(found, key=sorted)


def told_tuples(length, most):
    """All tuples of up to so many words of the length, words told twice and in each sequence among them."""
    for many in range(most + 1):
        yield from itertools.product(range(2 ** length), repeat=many)


def small_tuples():
    """Pairs of a length and of words: short lengths gone through in full."""
    for length, most in ((1, 4), (2, 4), (3, 3), (4, 2)):
        for words in told_tuples(length, most):
            yield length, words
    for words in itertools.combinations(range(16), 3):
        yield 4, words


def made_tuples(seed, lengths, most, many):
    """Pairs of a length and of words, made from the seed alone."""
    source = random.Random(seed)
    for length in lengths:
        for _ in range(many):
            yield length, tuple(source.randrange(2 ** length) for _ in range(source.randrange(most + 1)))


def lots(length):
    """All ascending tuples of one place or more."""
    for many in range(1, length + 1):
        yield from itertools.combinations(range(length), many)


def index_lots(many):
    """All ascending tuples of indices, also ()."""
    for some in range(many + 1):
        yield from itertools.combinations(range(many), some)


def mask(lot):
    """The word with 1 just at the places of the lot."""
    return sum(2 ** place for place in lot)


def rest_of(length, lot):
    """The places that are not in the lot."""
    return tuple(place for place in range(length) if place not in lot)


def partitions(places):
    """All ways to part the places into lots."""
    if not places:
        yield ()
        return
    for many in range(len(places)):
        for more in itertools.combinations(places[1:], many):
            lot = (places[0],) + more
            for others in partitions(tuple(place for place in places if place not in lot)):
                yield (lot,) + others


def cut(word, lot):
    return int("0" + "".join(str(word >> place & 1) for place in reversed(lot)), 2)


def trace(span, lot):
    return frozenset(cut(word, lot) for word in span)


def part(length, span, lot):
    beside = [place for place in range(length) if place not in lot]
    return frozenset(cut(word, lot) for word in span if not any(word >> place & 1 for place in beside))


def is_own(length, span):
    return checks(length, span) == span


@functools.lru_cache(None)
def own_codes(length):
    """All own codes of the length, each one as a frozenset, grown word by word from 0 and all."""
    latest = {frozenset({0, 2 ** length - 1})}
    for _ in range(length // 2 - 1):
        latest = {span | {word ^ one for one in span}
                  for span in latest for word in range(2 ** length)
                  if ones(word) % 2 == 0 and word not in span and all(even(word, one) for one in span)}
    return tuple(sorted(latest, key=sorted))


def apart(one, other):
    """The distance of two own codes."""
    return dimension(one) - dimension(one & other)


def counts(length, words):
    row = [0] * (length + 1)
    for word in words:
        row[ones(word)] += 1
    return tuple(row)


@functools.lru_cache(None)
def power_row(length, other):
    """The numbers K(w, other) for all w: the parts of the polynomial (1 - y) ** other (1 + y) ** (length - other)."""
    row = [1]
    for at in range(length):
        sign = -1 if at < other else 1
        row = [low + sign * high for low, high in zip(row + [0], [0] + row)]
    return tuple(row)


def transformed(row):
    length = len(row) - 1
    return tuple(sum(number * power_row(length, other)[weight] for other, number in enumerate(row))
                 for weight in range(length + 1))


def times(row, other):
    """The product of two polynomials."""
    out = [0] * (len(row) + len(other) - 1)
    for at, number in enumerate(row):
        for then, more in enumerate(other):
            out[at + then] += number * more
    return tuple(out)


def led(exchange, word):
    return sum(2 ** exchange[place] for place in range(len(exchange)) if word >> place & 1)


def led_code(exchange, span):
    return frozenset(led(exchange, word) for word in span)


def swapped(length, one, other):
    """The exchange of two places."""
    exchange = list(range(length))
    exchange[one], exchange[other] = other, one
    return tuple(exchange)


@functools.lru_cache(None)
def classes(length):
    """A dict of all own codes of the length: equal numbers for alike ones, told by exchanges of two places."""
    found = {}
    for code in own_codes(length):
        if code not in found:
            number = len(set(found.values()))
            latest = [code]
            found[code] = number
            while latest:
                latest = [led_code(swapped(length, at, at + 1), one) for one in latest for at in range(length - 1)]
                latest = sorted(set(latest) - set(found), key=sorted)
                found.update((one, number) for one in latest)
    return found


@functools.lru_cache(None)
def keepers(length, span):
    """All exchanges that keep the code, a look at each exchange there is."""
    words = basis(span)
    return [exchange for exchange in itertools.permutations(range(length))
            if all(led(exchange, word) in span for word in words)]
