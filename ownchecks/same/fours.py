"""Pairs, strips, sevens and eights: the places that the lightest words of an own code tell, and in which way."""

from ownchecks.base.linear import added, basis_by, is_ascending_below, is_from_to, is_integer, ones_in, places_in
from ownchecks.base.linear import span_by, word_at
from ownchecks.base.spans import MOST_LENGTH
from ownchecks.code.codes import Code, need_own
from ownchecks.errors import InvalidNumber, InvalidOperation, UnknownName
from ownchecks.same.exchanges import led, need_two

KINDS = ("eight", "pair", "seven", "strip")
# all kinds but the strip have one number of places
PLACES = {"eight": 8, "pair": 2, "seven": 7}
# no strip has so many fours
KIND_BY_FOURS = {7: "seven", 14: "eight"}
LEAST_STRIP = 4


def light_words(code):
    """The pairs, and the fours, both ascending."""
    words = span_by(code.basis)
    pairs = tuple([word for word in words if ones_in(word) == 2])
    paired = added(pairs)
    return pairs, tuple([word for word in words if not word & paired and ones_in(word) == 4])


def linked_places(fours):
    """For each lot of linked fours the word of its places."""
    lots = []
    for four in fours:
        # a four meets one of those that are linked just if it meets their places
        united = four
        for lot in lots:
            if lot & four:
                united |= lot
        lots = [lot for lot in lots if not lot & four] + [united]
    return lots


def told_by(pairs, fours):
    """The tuple of the pairs of a kind and a lot, ascending by lots."""
    told = [("pair", places_in(pair)) for pair in pairs]
    for lot in linked_places(fours):
        many = len([four for four in fours if four & lot])
        told.append((KIND_BY_FOURS.get(many, "strip"), places_in(lot)))
    return tuple(sorted(told, key=lambda one: one[1]))


def kind_at(told, value):
    """The kind of the one of the told lots that the value is, or None if it is none of them."""
    if is_ascending_below(value, MOST_LENGTH):
        for kind, lot in told:
            if lot == value:
                return kind
    return None


def need_told(code, lot):
    """Refuse what is no own code, and what is no told lot of it; else give its kind, and its pair or its fours."""
    need_own(code)
    pairs, fours = light_words(code)
    kind = kind_at(told_by(pairs, fours), lot)
    if kind is None:
        raise InvalidOperation("the lot of a pair or of linked fours is needed")
    within = word_at(lot)
    return kind, [word for word in pairs + fours if word & within]


def twins_by(lot, words):
    """The twins of a strip, as its fours tell them: the places that are in each word in which a place is."""
    found = []
    for place in lot:
        twin = word_at(lot)
        for word in words:
            if word >> place & 1:
                twin &= word
        if places_in(twin)[0] == place:
            found.append(places_in(twin))
    return found


def by_three_words(lot, words):
    """A laying of a seven or an eight.

    At the place i of a pattern the words 15, 51, 85 have the bits of 7 - i. Three words stand here for them: a seven
    has no more in its basis, and in that of an eight all but the first one have 0 at its head.
    """
    one, two, three = basis_by(words)[-3:]
    numbered = [((one >> place & 1) * 4 + (two >> place & 1) * 2 + (three >> place & 1), place) for place in lot]
    return tuple([place for _, place in sorted(numbered, reverse=True)])


def pairs_of(code):
    """The ascending tuple of the words of weight 2."""
    need_own(code)
    return light_words(code)[0]


def fours_of(code):
    """The ascending tuple of the words of weight 4 that have no place in common with a pair."""
    need_own(code)
    return light_words(code)[1]


def told_lots(code):
    """The tuple of the pairs of a kind and a lot, ascending by lots."""
    need_own(code)
    pairs, fours = light_words(code)
    return told_by(pairs, fours)


def bare_places(code):
    """The ascending tuple of the places that are in no pair and in no four."""
    told = [place for _, lot in told_lots(code) for place in lot]
    return tuple([place for place in range(code.length) if place not in told])


def fingerprint(code):
    """The ascending tuple of the kinds of all told lots, each with its number of places."""
    return tuple(sorted([(kind, len(lot)) for kind, lot in told_lots(code)]))


def twins_of(code, lot):
    """The twins of a strip of more than four places, ascending."""
    kind, words = need_told(code, lot)
    if kind != "strip" or len(lot) == LEAST_STRIP:
        raise InvalidOperation("a strip of more than four places is needed")
    return tuple(twins_by(lot, words))


def pattern(kind, many):
    """The code that shows the kind on so many places."""
    if kind not in KINDS:
        raise UnknownName(kind)
    if not is_length_of(kind, many):
        raise InvalidNumber(many)
    return Code(many, pattern_words(kind, many))


def is_length_of(kind, value):
    """Whether the value is a number of places that lots of the kind can have."""
    if kind == "strip":
        return is_from_to(value, LEAST_STRIP, MOST_LENGTH) and not value & 1
    return is_integer(value) and value == PLACES[kind]


def pattern_words(kind, many):
    """Words that span the pattern."""
    if kind == "pair":
        return (3,)
    if kind == "strip":
        return tuple([15 << place for place in range(0, many - 2, 2)])
    return (15, 51, 85) if kind == "seven" else (15, 51, 85, 150)


def laying(code, lot):
    """The places of a told lot, as those of its pattern go to them."""
    kind, words = need_told(code, lot)
    if kind in ("seven", "eight"):
        return by_three_words(lot, words)
    # a strip of four places, and a pair, have just one word, and any sequence of its places will do
    return tuple([place for twin in twins_by(lot, words) for place in twin])


def is_laying(code, lot, value):
    """Whether the value is a right answer of laying."""
    kind, words = need_told(code, lot)
    if not isinstance(value, tuple) or not all([is_integer(place) for place in value]):
        return False
    if sorted(value) != list(lot):
        return False
    return basis_by([led(value, word) for word in pattern_words(kind, len(lot))]) == basis_by(words)


def are_alike_by_fours(one, other):
    """Whether both codes are alike."""
    need_two(one, other)
    return fingerprint(one) == fingerprint(other)
