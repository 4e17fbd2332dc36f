"""What falls apart: along which lots of places an own code is the sum of shorter ones."""

from ownchecks.base.linear import head_place, is_word_of, places_in, remainder_by, word_at
from ownchecks.base.spans import MOST_LENGTH
from ownchecks.code.codes import Code, need_at_most, need_lot, need_own, part_on
from ownchecks.errors import InvalidCode, InvalidOperation
from ownchecks.same.exchanges import led


def need_own_tuple(codes):
    """Refuse what is no tuple of own codes."""
    if not isinstance(codes, tuple):
        raise InvalidCode("a tuple of own codes is needed")
    for code in codes:
        need_own(code)


def need_lots(lots):
    """Refuse what is no tuple of lots that have each of the places from 0 on just once."""
    if not isinstance(lots, tuple) or not lots:
        raise InvalidOperation("a tuple of at least one lot is needed")
    if not all([isinstance(lot, tuple) for lot in lots]):
        raise InvalidOperation("each lot is a tuple")
    many = sum([len(lot) for lot in lots])
    for lot in lots:
        need_lot(many, lot)
    if len(set([place for lot in lots for place in lot])) < many:
        raise InvalidOperation("no place is in two lots")


def need_lot_and_rest(code, lot):
    """Refuse what is no own code, and what is no lot of it or leaves nothing beside it."""
    need_own(code)
    need_lot(code.length, lot)
    if len(lot) == code.length:
        raise InvalidOperation("a lot that has not all places is needed")


def cut_out(basis, lot):
    """A word of the basis that is not in the code any more when all ones beside the lot are left out, or None."""
    within = word_at(lot)
    for word in basis:
        if remainder_by(basis, word & within):
            return word
    return None


def tied_to(basis, place):
    """The places that are tied to the place, and this one itself if it is a head."""
    tied = 0
    for row in basis:
        if head_place(row) == place:
            tied |= row
        elif row >> place & 1:
            tied |= 1 << head_place(row)
    return places_in(tied)


def hanging_with(basis, place):
    """The ascending tuple of the places that hang together with the place by ties."""
    found = [place]
    # the list grows while it is gone through, up to its last place
    at = 0
    while at < len(found):
        found = found + [other for other in tied_to(basis, found[at]) if other not in found]
        at += 1
    return tuple(sorted(found))


def sum_on(lots, codes):
    """The code that has these codes as its parts on the lots."""
    length = sum([code.length for code in codes])
    need_at_most(length, MOST_LENGTH)
    return Code(length, tuple([led(lot, word) for lot, code in zip(lots, codes) for word in code.basis]))


def gap_at(code, lot):
    """The number of the places of the lot, less twice the dimension of the part there."""
    need_own(code)
    need_lot(code.length, lot)
    return len(lot) - 2 * part_on(code, lot).dimension


def split_or_word(code, lot):
    """That the code falls apart along the lot, or a word that shows that it does not."""
    need_lot_and_rest(code, lot)
    word = cut_out(code.basis, lot)
    return ("split",) if word is None else ("word", word)


def is_split_or_word(code, lot, value):
    """Whether the value is a right answer of split_or_word."""
    need_lot_and_rest(code, lot)
    if not isinstance(value, tuple) or not value:
        return False
    kind, *told = value
    if kind == "split":
        return not told and cut_out(code.basis, lot) is None
    return kind == "word" and len(told) == 1 and is_cut_out(code, lot, told[0])


def is_cut_out(code, lot, value):
    """Whether the value is a word of the code that is not in it when all ones beside the lot are left out."""
    if not is_word_of(code.length, value) or remainder_by(code.basis, value):
        return False
    return remainder_by(code.basis, value & word_at(lot)) != 0


def ties(code):
    """The ascending tuple of the pairs of tied places."""
    need_own(code)
    return tuple([(place, other) for place in range(code.length)
                  for other in tied_to(code.basis, place) if place < other])


def unsplit_lots(code):
    """The lots of the unsplit parts, ascending."""
    need_own(code)
    lots = [hanging_with(code.basis, place) for place in range(code.length)]
    # each lot comes for each of its places, and is taken at the least one
    return tuple([lot for place, lot in enumerate(lots) if lot[0] == place])


def unsplit_parts(code):
    """The unsplit parts, in the sequence of their lots."""
    return tuple([part_on(code, lot) for lot in unsplit_lots(code)])


def is_unsplit(code):
    """Whether the code falls apart along no lot."""
    return len(unsplit_lots(code)) == 1


def side_by_side(codes):
    """The sum of the codes, each one on the places behind those of the one ahead."""
    need_own_tuple(codes)
    if not codes:
        raise InvalidCode("at least one own code is needed")
    lots = []
    first = 0
    for code in codes:
        lots.append(tuple(range(first, first + code.length)))
        first += code.length
    return sum_on(lots, codes)


def summed_at(lots, codes):
    """The code that falls apart along the lots, with these codes as its parts there."""
    need_lots(lots)
    need_own_tuple(codes)
    if [len(lot) for lot in lots] != [code.length for code in codes]:
        raise InvalidOperation("a code for each lot is needed, as long as it")
    return sum_on(lots, codes)
