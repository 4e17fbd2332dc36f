"""All own codes: children and parents, and the address and the number of each one."""

from ownchecks.base.linear import basis_by, even_with, free_by, is_from_to, ones_in, product_bit, remainder_by
from ownchecks.base.linear import word_at
from ownchecks.base.spans import MOST_LENGTH, binomial, need_number
from ownchecks.code.codes import Code, cut, need_at_most, need_own, need_own_length
from ownchecks.errors import InvalidOperation, TooMany

# above these lengths not all parents, or not all codes, are listed
MOST_FOR_PARENTS = 14
MOST_FOR_ALL = 10
# the basis of the one own code of the length 2, from which all others come
FIRST_BASIS = (3,)


def child_by(length, basis, one, other):
    """The basis of the child at two places."""
    rest = [place for place in range(length) if place not in (one, other)]
    alike = even_with(basis, 1 << one | 1 << other)
    return basis_by([cut(word, rest) for word in alike])


def many_parents(length):
    """How many parents a code of the length has."""
    return (1 << length // 2) + 1


def parent_by(length, basis, digit):
    """The basis of the parent with the digit."""
    if digit == 0:
        return basis_by(basis + (3 << length,))
    bits, side = divmod(digit - 1, 2)
    least, *free = free_by(length, basis)
    rest = word_at([place for at, place in enumerate(free) if bits >> at & 1])
    if not ones_in(rest) & 1:
        rest = rest | 1 << least
    rows = [row | product_bit(row, rest) * (3 << length) for row in basis]
    return basis_by(rows + [rest | 1 << length + side])


def child_and_digit(length, basis):
    """The basis of the child at the last two places, and the digit of the code as a parent of it."""
    low = length - 2
    child_basis = child_by(length, basis, low, low + 1)
    # all is in the code, so the last place is a head; if its word has the place ahead, too, all words are alike there
    if basis[0] >> low == 3:
        return child_basis, 0
    word = basis[0] ^ 2 << low
    rest = remainder_by(child_basis, word)
    # the remainder stands at the place ahead of the last one if it is odd with what was added
    side = 1 ^ product_bit(rest, word ^ rest)
    _, *free = free_by(low, child_basis)
    bits = word_at([at for at, place in enumerate(free) if rest >> place & 1])
    return child_basis, 1 + 2 * bits + side


def address_by(code):
    """The list of the digits of the address."""
    basis = code.basis
    found = []
    for length in range(code.length, 2, -2):
        basis, digit = child_and_digit(length, basis)
        found.append(digit)
    found.reverse()
    return found


def code_with(address):
    """The code at the address."""
    length = 2
    basis = FIRST_BASIS
    for digit in address:
        basis = parent_by(length, basis, digit)
        length += 2
    return Code(length, basis)


def is_address(value):
    """Whether the value is an address of an own code of some length."""
    if not isinstance(value, tuple) or len(value) > MOST_LENGTH // 2 - 1:
        return False
    return all([is_from_to(digit, 0, 2 << at) for at, digit in enumerate(value)])


def child(code, one, other):
    """The child at two places."""
    need_own(code)
    need_number(one, 0, code.length - 1)
    need_number(other, 0, code.length - 1)
    if one >= other or code.length < 4:
        raise InvalidOperation("two ascending places of a code of the length 4 or more are needed")
    return Code(code.length - 2, child_by(code.length, code.basis, one, other))


def parent(code, digit):
    """The parent with the digit."""
    need_own(code)
    need_number(digit, 0, many_parents(code.length) - 1)
    if code.length == MOST_LENGTH:
        raise TooMany(MOST_LENGTH)
    return Code(code.length + 2, parent_by(code.length, code.basis, digit))


def parents(code):
    """The tuple of all parents, by their digits."""
    need_own(code)
    need_at_most(code.length, MOST_FOR_PARENTS)
    return tuple([Code(code.length + 2, parent_by(code.length, code.basis, digit))
                  for digit in range(many_parents(code.length))])


def digit_of(code):
    """The digit of the code as a parent of its child at its last two places."""
    need_own(code)
    if code.length == 2:
        raise InvalidOperation("a code of the length 2 is nobody's parent")
    return child_and_digit(code.length, code.basis)[1]


def address_of(code):
    """The address: the digits of the code and of its children, the shortest one first."""
    need_own(code)
    return tuple(address_by(code))


def code_at(address):
    """The code at the address."""
    if not is_address(address):
        raise InvalidOperation("an address is needed")
    return code_with(address)


def number_of(code):
    """How many addresses of codes of this length are less than that of the code."""
    need_own(code)
    number = 0
    for at, digit in enumerate(address_by(code)):
        number = number * many_parents(2 * at + 2) + digit
    return number


def code_by(length, number):
    """The code with the number."""
    need_own_length(length)
    need_number(number, 0, count_of(length) - 1)
    digits = []
    for lower in range(length - 2, 0, -2):
        number, digit = divmod(number, many_parents(lower))
        digits.append(digit)
    digits.reverse()
    return code_with(digits)


def count_of(length):
    """How many own codes of the length there are."""
    need_own_length(length)
    many = 1
    for lower in range(2, length, 2):
        many = many * many_parents(lower)
    return many


def count_at(length, steps):
    """How many own codes have the distance from any one of them."""
    need_own_length(length)
    most = length // 2 - 1
    need_number(steps, 0, most)
    return binomial(most, steps) << steps * (steps + 1) // 2


def codes(length):
    """All own codes of the length, ascending by their addresses."""
    need_own_length(length)
    need_at_most(length, MOST_FOR_ALL)
    for number in range(count_of(length)):
        yield code_by(length, number)
