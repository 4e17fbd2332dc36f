"""Claims about codes and counts, their opposites, and the papers that show them.

A claim is a word and what it speaks of: the functions here are passed these members behind the word.
"""

from ownchecks.base.linear import added, basis_by, holds, is_ascending_below, is_from_to, is_integer, is_word_of
from ownchecks.base.linear import meet_by, product_bit, remainder_by
from ownchecks.base.spans import MOST_LENGTH, parts_or_check
from ownchecks.code.codes import Code, is_odd_pair, is_own, is_own_or_shown, own_or_shown
from ownchecks.errors import InvalidClaim
from ownchecks.four.families import fours_or_word, has_fours_alone, is_other_word
from ownchecks.near.neighbours import distance_by, is_own_of, words_to
from ownchecks.near.within import around_or_odd
from ownchecks.same.parts import cut_out, tied_to, unsplit_lots
from ownchecks.weigh.counts import MOST_COUNT
from ownchecks.weigh.two import mixed, parts_or_place, rows_by


def is_code_and_word(told):
    """Whether these are a code and a word of its length."""
    return len(told) == 2 and isinstance(told[0], Code) and is_word_of(told[0].length, told[1])


def is_one_code(told):
    """Whether this is a code."""
    return len(told) == 1 and isinstance(told[0], Code)


def is_even_code(told):
    """Whether this is a code of an even length."""
    return is_one_code(told) and not told[0].length & 1


def is_own_code(told):
    """Whether this is an own code."""
    return is_one_code(told) and is_own(told[0])


def are_codes_and_steps(told):
    """Whether these are two own codes of one length and a number of steps."""
    if len(told) != 3 or not is_own_code(told[:1]) or not is_own_of(told[0].length, told[1]):
        return False
    return is_from_to(told[2], 0, told[0].dimension)


def are_even_counts(told):
    """Whether these are counts of an even length."""
    if len(told) != 1 or not isinstance(told[0], tuple):
        return False
    length = len(told[0]) - 1
    if not is_from_to(length, 2, MOST_LENGTH) or length & 1:
        return False
    return all([is_from_to(number, -MOST_COUNT, MOST_COUNT) for number in told[0]])


def takes_in(told, paper):
    """Whether the paper has the indices of words of the basis whose sum is the word."""
    code, word = told
    return is_ascending_below(paper, code.dimension) and added([code.basis[index] for index in paper]) == word


def takes_out(told, paper):
    """Whether the paper is even with the code, and not with the word."""
    code, word = told
    if not is_word_of(code.length, paper) or not product_bit(paper, word):
        return False
    return not any([product_bit(paper, row) for row in code.basis])


def takes_own(told, paper):
    """Whether the paper is empty, and the code is own."""
    return is_empty(paper) and is_own(told[0])


def takes_foreign(told, paper):
    """Whether the paper shows that the code is not own."""
    return paper != ("own",) and is_own_or_shown(told[0], paper)


def takes_held(told, paper):
    """Whether the paper is an own code around the code."""
    return is_own_of(told[0].length, paper) and holds(paper.basis, told[0].basis)


def takes_barred(told, paper):
    """Whether the paper has two words of the code with an odd product."""
    return is_tuple_of(2, paper) and is_odd_pair(told[0], paper[0], paper[1])


def takes_fours(told, paper):
    """Whether the paper is empty, and the code is by fours."""
    return is_empty(paper) and has_fours_alone(told[0])


def takes_uneven(told, paper):
    """Whether the paper is a word of the code whose weight is not divisible by 4."""
    return is_other_word(told[0], paper)


def takes_apart(told, paper):
    """Whether the code falls apart along the paper, a lot of some places but not of all."""
    code = told[0]
    if not is_ascending_below(paper, code.length) or not 0 < len(paper) < code.length:
        return False
    return cut_out(code.basis, paper) is None


def takes_unsplit(told, paper):
    """Whether the paper is a chain: pairs of tied places that lead from the place 0 to each other one."""
    code = told[0]
    if not is_tuple_of(code.length - 1, paper):
        return False
    reached = [0]
    for pair in paper:
        if not is_tuple_of(2, pair) or not all([is_integer(place) for place in pair]):
            return False
        first, last = pair
        if first not in reached or last in reached or last not in tied_to(code.basis, first):
            return False
        reached.append(last)
    return True


def takes_near(told, paper):
    """Whether the paper has so many independent words that both codes have."""
    one, other, steps = told
    if not are_independent(one.length, one.dimension - steps, paper):
        return False
    return holds(one.basis, paper) and holds(other.basis, paper)


def takes_far(told, paper):
    """Whether the paper has so many independent words, each one of one or both of the codes."""
    one, other, steps = told
    if not are_independent(one.length, one.dimension + 1 + steps, paper):
        return False
    return all([not remainder_by(one.basis, word) or not remainder_by(other.basis, word) for word in paper])


def takes_two(told, paper):
    """Whether the paper has the multiples of the rows whose sum the counts are."""
    rows = rows_by(len(told[0]) - 1, 2)
    if not is_tuple_of(len(rows), paper) or not all([is_integer(number) for number in paper]):
        return False
    return mixed(rows, paper) == told[0]


def takes_bent(told, paper):
    """Whether the paper is the place that shows that the counts are no sum of the rows."""
    if not is_tuple_of(2, paper) or not is_integer(paper[1]):
        return False
    return paper == parts_or_place(told[0], 2, "odd")


def is_tuple_of(many, value):
    """Whether the value is a tuple with so many members."""
    return isinstance(value, tuple) and len(value) == many


def is_empty(paper):
    """Whether the paper has nothing in it."""
    return is_tuple_of(0, paper)


def are_independent(length, many, value):
    """Whether the value has so many words, none of them a sum of others."""
    if not is_tuple_of(many, value) or not all([is_word_of(length, word) for word in value]):
        return False
    return len(basis_by(value)) == many


def answer_in(told):
    """Whether the word is in the code, and the paper."""
    code, word = told
    answer, paper = parts_or_check(code.length, code.basis, word)
    return "in" if answer == "parts" else "out", paper


def answer_own(told):
    """Whether the code is own, and the paper."""
    paper = own_or_shown(told[0])
    return ("own", ()) if paper == ("own",) else ("foreign", paper)


def answer_held(told):
    """Whether some own code has all words of the code, and the paper."""
    answer, *paper = around_or_odd(told[0])
    return ("held", paper[0]) if answer == "own" else ("barred", tuple(paper))


def answer_fours(told):
    """Whether the code is by fours, and the paper."""
    answer, *paper = fours_or_word(told[0])
    return ("fours", ()) if answer == "fours" else ("uneven", paper[0])


def answer_apart(told):
    """Whether the code falls apart, and the paper."""
    code = told[0]
    lots = unsplit_lots(code)
    return ("apart", lots[0]) if len(lots) > 1 else ("unsplit", chain_by(code.basis, code.length))


def chain_by(basis, length):
    """Pairs of tied places that lead from the place 0 to each other one, all of which hang together."""
    pairs = []
    latest = [0]
    while len(pairs) < length - 1:
        reached = [0] + [last for _, last in pairs]
        first = latest.pop()
        for last in tied_to(basis, first):
            if last not in reached:
                pairs.append((first, last))
                latest.append(last)
    return tuple(pairs)


def answer_near(told):
    """Whether the distance is at most the steps, and the paper."""
    one, other, steps = told
    if distance_by(one.basis, other.basis) <= steps:
        return "near", meet_by(one.length, one.basis, other.basis)[:one.dimension - steps]
    return "far", one.basis + tuple(words_to(one.basis, other.basis)[:steps + 1])


def answer_two(told):
    """Whether the counts are a sum of the rows, and the paper."""
    answer = parts_or_place(told[0], 2, "odd")
    return ("two", answer[1]) if answer[0] == "parts" else ("bent", answer)


OPPOSITES = {
    "in": "out", "own": "foreign", "held": "barred", "fours": "uneven", "apart": "unsplit", "near": "far",
    "two": "bent",
    "out": "in", "foreign": "own", "barred": "held", "uneven": "fours", "unsplit": "apart", "far": "near",
    "bent": "two",
}
# by the word: the judge of what stands behind it
FORMS = {
    "in": is_code_and_word, "own": is_one_code, "held": is_even_code, "fours": is_own_code, "apart": is_own_code,
    "near": are_codes_and_steps, "two": are_even_counts,
    "out": is_code_and_word, "foreign": is_one_code, "barred": is_even_code, "uneven": is_own_code,
    "unsplit": is_own_code, "far": are_codes_and_steps, "bent": are_even_counts,
}
# by the word: the judge of papers
CHECKERS = {
    "in": takes_in, "own": takes_own, "held": takes_held, "fours": takes_fours, "apart": takes_apart,
    "near": takes_near, "two": takes_two,
    "out": takes_out, "foreign": takes_foreign, "barred": takes_barred, "uneven": takes_uneven,
    "unsplit": takes_unsplit, "far": takes_far, "bent": takes_bent,
}
# by the word: what finds the right one of a claim and its opposite, and its paper
ANSWERS = {
    "in": answer_in, "own": answer_own, "held": answer_held, "fours": answer_fours, "apart": answer_apart,
    "near": answer_near, "two": answer_two,
    "out": answer_in, "foreign": answer_own, "barred": answer_held, "uneven": answer_fours,
    "unsplit": answer_apart, "far": answer_near, "bent": answer_two,
}


def need_claim(claim):
    """Refuse what is no claim."""
    if not is_claim(claim):
        raise InvalidClaim("a claim is needed")


def is_claim(value):
    """Whether the value is a claim."""
    if not isinstance(value, tuple) or not value or not isinstance(value[0], str) or value[0] not in FORMS:
        return False
    is_form = FORMS[value[0]]
    return is_form(value[1:])


def opposite(claim):
    """The opposite claim."""
    need_claim(claim)
    return (OPPOSITES[claim[0]],) + claim[1:]


def takes(claim, paper):
    """Whether the paper is one for the claim."""
    need_claim(claim)
    checker = CHECKERS[claim[0]]
    return checker(claim[1:], paper)


def answered(claim):
    """The claim or its opposite, whichever is true, and a paper for it."""
    need_claim(claim)
    finder = ANSWERS[claim[0]]
    word, paper = finder(claim[1:])
    return (word,) + claim[1:], paper
