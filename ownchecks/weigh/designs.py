"""Evenly spread words: how often the words of one weight of an own code have 1 at some places together."""

from ownchecks.base.linear import is_ascending_below, is_integer, word_at
from ownchecks.base.spans import need_number, need_word
from ownchecks.code.codes import need_own
from ownchecks.errors import InvalidOperation
from ownchecks.weigh.counts import counts_of, tally, words_of_weight

MOST_TOGETHER = 5


def need_weight(code, weight):
    """Refuse what is no own code, and what is no weight of words of its length."""
    need_own(code)
    need_number(weight, 0, code.length)


def need_together(length, t):
    """Refuse what is no number of places of a lot."""
    need_number(t, 0, min(MOST_TOGETHER, length))


def is_lot_of(length, value):
    """Whether the value is a lot of places of the length."""
    return is_ascending_below(value, length) and len(value) <= MOST_TOGETHER


def times_by(words, lot):
    """How many of the words have 1 at all places of the lot."""
    places = word_at(lot)
    return len([word for word in words if word & places == places])


def columns_of(length, words):
    """For each place the bits of the words there: the i-th bit is that of the i-th word."""
    return [word_at([at for at, word in enumerate(words) if word >> place & 1]) for place in range(length)]


def lots_of(length, t):
    """All lots of t places, ascending."""
    lots = [()]
    for _ in range(t):
        lots = [lot + (place,) for lot in lots for place in range(lot[-1] + 1 if lot else 0, length)]
    return lots


def unlike_lots(length, words, t):
    """Two lots of t places with unlike times, or None if there are none such."""
    columns = columns_of(length, words)
    lots = lots_of(length, t)
    times = times_by(words, lots[0])
    for lot in lots:
        common = (1 << len(words)) - 1
        for place in lot:
            common &= columns[place]
        # many words are counted at once so: there are thousands of lots
        if f"{common:b}".count("1") != times:
            return lots[0], lot
    return None


def times_at(code, weight, lot):
    """How many words of the weight have 1 at all places of the lot."""
    need_weight(code, weight)
    if not is_lot_of(code.length, lot):
        raise InvalidOperation(f"an ascending tuple of at most {MOST_TOGETHER} places of the code is needed")
    return times_by(words_of_weight(code, weight), lot)


def spread_or_lots(code, weight, t):
    """The times of all lots of t places, or else two lots with unlike times."""
    need_weight(code, weight)
    need_together(code.length, t)
    words = words_of_weight(code, weight)
    pair = unlike_lots(code.length, words, t)
    if pair is None:
        return "spread", times_by(words, tuple(range(t)))
    return "unlike", pair[0], pair[1]


def is_spread_or_lots(code, weight, t, value):
    """Whether the value is a right answer of spread_or_lots."""
    need_weight(code, weight)
    need_together(code.length, t)
    if not isinstance(value, tuple) or not value:
        return False
    words = words_of_weight(code, weight)
    kind, *told = value
    if kind == "unlike":
        return len(told) == 2 and are_unlike(code.length, words, t, told)
    if kind != "spread" or len(told) != 1 or not is_integer(told[0]):
        return False
    return told[0] == times_by(words, tuple(range(t))) and unlike_lots(code.length, words, t) is None


def are_unlike(length, words, t, pair):
    """Whether these are two lots of t places with unlike times."""
    if not all([is_lot_of(length, lot) and len(lot) == t for lot in pair]):
        return False
    return times_by(words, pair[0]) != times_by(words, pair[1])


def most_spread(code, weight):
    """The greatest number of places, at most the weight, by which the words of the weight are spread."""
    need_weight(code, weight)
    words = words_of_weight(code, weight)
    most = min(weight, MOST_TOGETHER)
    # words that are spread by more places are spread by fewer ones
    for t in range(most):
        if unlike_lots(code.length, words, t + 1) is not None:
            return t
    return most


def is_sure(code, t):
    """Whether so few weights are in the code that the words of each one are surely spread by t."""
    need_own(code)
    need_together(code.length, t)
    weights = [weight for weight, number in enumerate(counts_of(code)) if weight and number]
    least = weights[0]
    return t < least and len([weight for weight in weights if weight <= code.length - t]) <= least - t


def meetings(code, weight, word):
    """For each number of places how many words of the weight have 1 in common with the word at just so many."""
    need_weight(code, weight)
    need_word(code.length, word)
    return tally(code.length, [word & one for one in words_of_weight(code, weight)])
