"""Exchanges of places: which codes are alike, and which exchanges keep a code.

A *sight* of an own code is what a search for exchanges sees of it: for each place a triple. Its members are the lesser
places of the word of the basis with this head, or None for a free place; the bits of the words of the basis at the
place; and a list that tells for each place, by one number, how many words of each weight go through both.
"""

from math import factorial
from ownchecks.base.linear import added, basis_by, head_place, is_from_to, places_in, span_by, word_at
from ownchecks.base.spans import need_length, need_number, need_word
from ownchecks.code.codes import Code, need_at_most, need_own, need_own_codes
from ownchecks.errors import InvalidOperation
from ownchecks.weigh.counts import tally

MOST_LENGTH = 16
# the most places of an exchange that is told without a code
MOST_PLACES = 24


def is_exchange_of(length, value):
    """Whether the value is an exchange of so many places."""
    if not isinstance(value, tuple) or len(value) != length:
        return False
    return all([is_from_to(place, 0, length - 1) for place in value]) and len(set(value)) == length


def need_exchange(value):
    """Refuse what is no exchange of 1 to 24 places."""
    if not isinstance(value, tuple) or not is_from_to(len(value), 1, MOST_PLACES):
        raise InvalidOperation(f"an exchange of 1 to {MOST_PLACES} places is needed")
    need_exchange_of(len(value), value)


def need_exchange_of(length, value):
    """Refuse what is no exchange of so many places."""
    if not is_exchange_of(length, value):
        raise InvalidOperation(f"an exchange of {length} places is needed")


def need_two(one, other):
    """Refuse what is no own code, two of unlike lengths, and too long ones."""
    need_own_codes(one, other)
    need_at_most(one.length, MOST_LENGTH)


def need_one(code):
    """Refuse what is no own code, and too long ones."""
    need_own(code)
    need_at_most(code.length, MOST_LENGTH)


def behind(one, other):
    """The exchange of the one and then the other."""
    return tuple([other[place] for place in one])


def led(exchange, word):
    """The word with 1 at the places to which those of the ones are led."""
    return word_at([exchange[place] for place in places_in(word)])


def led_basis(exchange, basis):
    """The basis of the led code."""
    return basis_by([led(exchange, row) for row in basis])


def sight_of(code):
    """The sight of an own code."""
    below = {head_place(row): places_in(row)[:-1] for row in code.basis}
    marks = marks_of(code)
    return [(below.get(place), bits_at(code.basis, place), marks[place]) for place in range(code.length)]


def bits_at(basis, place):
    """The bits of the words of the basis at the place; those of the places of a word add up to 0 if it is in."""
    return word_at([at for at, row in enumerate(basis) if row >> place & 1])


def marks_of(code):
    """For each two places a number that tells how many words of each weight go through both."""
    marks = [[0] * code.length for _ in range(code.length)]
    for word in span_by(code.basis):
        places = places_in(word)
        # no number of words has so many bits that one weight could be taken for others
        unit = 1 << len(places) * code.length
        for one in places:
            row = marks[one]
            for other in places:
                row[other] += unit
    return marks


def fitting(here, there, images):
    """The places to which the next place can be led, as far as it and the places ahead of it tell.

    `here` and `there` are the sights of the codes; `images` tells to which places those ahead are led.
    """
    below, _, marks = here[len(images)]
    found = [place for place in range(len(there)) if place not in images]
    if below is not None:
        # the word with this head is in the one code, so the led word has to be in the other one
        bits = added([there[images[place]][1] for place in below])
        found = [place for place in found if there[place][1] == bits]
    return [place for place in found if is_marked(there[place][2], images + (place,), marks)]


def is_marked(row, images, marks):
    """Whether the row has at the images what the marks tell for the places that are led there."""
    return all([row[image] == marks[place] for place, image in enumerate(images)])


def completed(here, there, images):
    """An exchange that leads the one code to the other and the first places to the images, or None."""
    if len(images) == len(here):
        return images
    for place in fitting(here, there, images):
        found = completed(here, there, images + (place,))
        if found is not None:
            return found
    return None


def exchange_between(one, other):
    """An exchange that leads the one code to the other, or None."""
    return completed(sight_of(one), sight_of(other), ())


def reached(exchanges, length, place):
    """A dict of the places to which the exchanges lead the place, one behind the other, and of how."""
    ways = {place: tuple(range(length))}
    latest = [place]
    while latest:
        fresh = []
        for at in latest:
            for exchange in exchanges:
                if exchange[at] not in ways:
                    ways[exchange[at]] = behind(ways[at], exchange)
                    fresh.append(exchange[at])
        latest = fresh
    return ways


def keeping(code):
    """For each place a dict: the places of the tower's member there, and an exchange of the climb for each."""
    sight = sight_of(code)
    climb = []
    found = []
    for place in range(code.length - 1, -1, -1):
        held = tuple(range(place))
        # all that is found up to here holds the places below this one
        ways = reached(found, code.length, place)
        for image in fitting(sight, sight, held):
            exchange = None if image in ways else completed(sight, sight, held + (image,))
            if exchange is not None:
                found.append(exchange)
                ways = reached(found, code.length, place)
        climb.append(ways)
    climb.reverse()
    return climb


def tower_by(code):
    """The tower of the code."""
    return tuple([tuple(sorted(ways)) for ways in keeping(code)])


def order_by(code):
    """How many exchanges keep the code."""
    order = 1
    for ways in keeping(code):
        order = order * len(ways)
    return order


def is_exchange(length, value):
    """Whether the value is an exchange of so many places."""
    need_length(length)
    return is_exchange_of(length, value)


def backward(exchange):
    """The exchange that leads each place back."""
    need_exchange(exchange)
    return tuple([exchange.index(place) for place in range(len(exchange))])


def one_behind(one, other):
    """The exchange of the one and then the other."""
    need_exchange(one)
    need_exchange(other)
    if len(one) != len(other):
        raise InvalidOperation("two exchanges of one length are needed")
    return behind(one, other)


def led_word(exchange, word):
    """The led word."""
    need_exchange(exchange)
    need_word(len(exchange), word)
    return led(exchange, word)


def exchanged(code, exchange):
    """The code of all led words."""
    need_own(code)
    need_exchange_of(code.length, exchange)
    return Code(code.length, led_basis(exchange, code.basis))


def does_keep(code, exchange):
    """Whether the exchange leads the code to itself."""
    need_own(code)
    need_exchange_of(code.length, exchange)
    return led_basis(exchange, code.basis) == code.basis


def exchange_or_none(one, other):
    """An exchange that leads the one code to the other, or None if there is none."""
    need_two(one, other)
    return exchange_between(one, other)


def is_exchange_or_none(one, other, value):
    """Whether the value is a right answer of exchange_or_none."""
    need_two(one, other)
    if value is None:
        return exchange_between(one, other) is None
    return is_exchange_of(one.length, value) and led_basis(value, one.basis) == other.basis


def tower_of(code):
    """For each place those to which it is led by the exchanges that keep the code and hold all places below."""
    need_one(code)
    return tower_by(code)


def order_of(code):
    """How many exchanges keep the code."""
    need_one(code)
    return order_by(code)


def alike_count(code):
    """How many codes are alike to the code, itself among them."""
    need_one(code)
    return factorial(code.length) // order_by(code)


def climb_of(code):
    """For each place an exchange for each place of the tower's member there."""
    need_one(code)
    return tuple([tuple([ways[image] for image in sorted(ways)]) for ways in keeping(code)])


def is_climb(code, value):
    """Whether the value is a climb of the code."""
    need_one(code)
    if not isinstance(value, tuple) or len(value) != code.length:
        return False
    return all([is_climb_at(code, place, images, value[place]) for place, images in enumerate(tower_by(code))])


def is_climb_at(code, place, images, value):
    """Whether the value has for each of the images an exchange that a climb can have there for the place."""
    if not isinstance(value, tuple) or len(value) != len(images):
        return False
    for image, exchange in zip(images, value):
        # images of the places to this one: those below it are held
        wanted = tuple(range(place)) + (image,)
        if not is_exchange_of(code.length, exchange) or exchange[:place + 1] != wanted:
            return False
        if led_basis(exchange, code.basis) != code.basis:
            return False
    return True


def orbits_of(code):
    """The orbits of the places, ascending."""
    need_one(code)
    exchanges = [exchange for ways in keeping(code) for exchange in ways.values()]
    orbits = [tuple(sorted(reached(exchanges, code.length, place))) for place in range(code.length)]
    # each orbit comes for each of its places, and is taken at the least one
    return tuple([orbit for place, orbit in enumerate(orbits) if orbit[0] == place])


def through(code, place):
    """How many words of each weight have 1 at the place."""
    need_own(code)
    need_number(place, 0, code.length - 1)
    return tally(code.length, [word for word in span_by(code.basis) if word >> place & 1])


def through_two(code, place, other):
    """How many words of each weight have 1 at both places."""
    need_own(code)
    need_number(place, 0, code.length - 1)
    need_number(other, 0, code.length - 1)
    if place == other:
        raise InvalidOperation("two unlike places are needed")
    return tally(code.length, [word for word in span_by(code.basis) if word >> place & word >> other & 1])
