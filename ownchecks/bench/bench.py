"""A bench: own codes under names, edits that can be undone, and answers that last as long as they are right."""

from ownchecks.base.linear import is_from_to
from ownchecks.base.spans import MOST_LENGTH
from ownchecks.code.codes import need_at_most, need_own
from ownchecks.errors import InvalidOperation, InvalidText, NothingToUndo, UnknownName
from ownchecks.near.every import child, parent
from ownchecks.near.neighbours import distance, neighbour
from ownchecks.same.exchanges import exchange_or_none, exchanged, is_exchange_of, led_basis, need_two
from ownchecks.same.parts import side_by_side

MOST_CODES = 12
MOST_NAME = 8


def is_name(value):
    """Whether the value is a string of few enough letters from a to z."""
    if not isinstance(value, str) or not is_from_to(len(value), 1, MOST_NAME):
        return False
    return value.isascii() and value.isalpha() and value.islower()


def need_name(name):
    """Refuse what is no name."""
    if not is_name(name):
        raise InvalidText(f"a name of 1 to {MOST_NAME} letters is needed")


def is_right(one, other, answer):
    """Whether the answer, which was right once, is right for these codes of one length."""
    if answer == ("unlike",):
        return exchange_or_none(one, other) is None
    exchange = answer[1]
    return is_exchange_of(one.length, exchange) and led_basis(exchange, one.basis) == other.basis


class Place:
    """The codes by their names, and the answers by the two names that were asked for."""

    def __init__(self, codes, answers):
        self.codes = codes
        self.answers = answers


class Bench:
    """Own codes under names, and answers of questions about two of them."""

    def __init__(self):
        # the places up to the one at hand can be undone, those behind it can be redone
        self._places = [Place({}, {})]
        self._at = 0

    def _here(self):
        """The place at hand."""
        return self._places[self._at]

    def _lead(self, codes, answers):
        """Lead to a new place, behind the one at hand."""
        self._places = self._places[:self._at + 1] + [Place(codes, answers)]
        self._at += 1

    def _edit(self, name, code):
        """Lead to a new place, at which the code has the name."""
        here = self._here()
        codes = dict(here.codes)
        codes[name] = code
        need_at_most(len(codes), MOST_CODES)
        self._lead(codes, self._answers_without(()))

    def _answers_without(self, names):
        """A copy of the answers, but for those that were asked for one of the names."""
        answers = self._here().answers
        return {asked: answers[asked] for asked in answers if asked[0] not in names and asked[1] not in names}

    @property
    def names(self):
        """The names, ascending."""
        return tuple(sorted(self._here().codes))

    def put(self, name, code):
        """Give the name to the code."""
        need_name(name)
        need_own(code)
        self._edit(name, code)

    def drop(self, name):
        """Take the name away, and its answers."""
        self.code_of(name)
        codes = self._here().codes
        self._lead({one: codes[one] for one in codes if one != name}, self._answers_without((name,)))

    def step(self, name, word):
        """Go on to the neighbour by the word."""
        self._edit(name, neighbour(self.code_of(name), word))

    def turn(self, name, exchange):
        """Go on to the code that the exchange leads to."""
        self._edit(name, exchanged(self.code_of(name), exchange))

    def grow(self, name, digit):
        """Go on to a parent."""
        self._edit(name, parent(self.code_of(name), digit))

    def shrink(self, name, one, other):
        """Go on to the child at two places."""
        self._edit(name, child(self.code_of(name), one, other))

    def unite(self, new, name, other):
        """Give the new name to the sum of two codes."""
        need_name(new)
        both = (self.code_of(name), self.code_of(other))
        if both[0].length + both[1].length > MOST_LENGTH:
            raise InvalidOperation(f"a sum of at most {MOST_LENGTH} places is needed")
        self._edit(new, side_by_side(both))

    def undo(self):
        """Go back to the place ahead."""
        if self._at == 0:
            raise NothingToUndo(1)
        self._at -= 1

    def redo(self):
        """Go on again to the place from which was gone back."""
        if self._at + 1 == len(self._places):
            raise NothingToUndo(-1)
        self._at += 1

    def code_of(self, name):
        """The code with the name."""
        if name not in self:
            raise UnknownName(name)
        return self._here().codes[name]

    def ask(self, name, other):
        """An exchange that leads the one code to the other, or that there is none: as was told, if it is right."""
        one = self.code_of(name)
        then = self.code_of(other)
        need_two(one, then)
        answers = self._here().answers
        kept = answers.get((name, other))
        if kept is None or not is_right(one, then, kept):
            exchange = exchange_or_none(one, then)
            kept = ("unlike",) if exchange is None else ("alike", exchange)
            answers[(name, other)] = kept
        return kept

    def known(self, name, other):
        """The answer that was told, if it is right, or None."""
        one = self.code_of(name)
        then = self.code_of(other)
        kept = self._here().answers.get((name, other))
        if kept is None or one.length != then.length or not is_right(one, then, kept):
            return None
        return kept

    def apart(self, name, other):
        """How many steps from neighbour to neighbour the codes are apart."""
        return distance(self.code_of(name), self.code_of(other))

    def __contains__(self, name):
        return isinstance(name, str) and name in self._here().codes

    def __len__(self):
        return len(self._here().codes)

    def __eq__(self, other):
        return isinstance(other, Bench) and self._here().codes == other._here().codes

    def __str__(self):
        return f"bench of {len(self._here().codes)} codes, {self._at} edits"
