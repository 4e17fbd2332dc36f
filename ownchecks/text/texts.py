"""Texts: codes, words, exchanges and counts, written line by line and read back."""

from ownchecks.base.linear import head_place, is_from_to, word_at
from ownchecks.base.spans import MOST_LENGTH, MOST_WORDS, need_length, need_words
from ownchecks.code.codes import Code, need_code
from ownchecks.errors import InvalidText, ParseError
from ownchecks.same.exchanges import MOST_PLACES, is_exchange_of, need_exchange
from ownchecks.weigh.counts import LEAST_COUNTS, MOST_COUNTS, need_counts

MOST_TEXT = 10000
MOST_DIGITS = 60
# what stands ahead of the signs of a word
MARGIN = "  "
LAST_LINE = "end"


def need_text(text):
    """Refuse what is no string of few enough printable characters and newlines."""
    if not isinstance(text, str) or len(text) > MOST_TEXT:
        raise InvalidText(f"a text of at most {MOST_TEXT} characters is needed")
    if not text.isascii() or not text.replace("\n", "").isprintable():
        raise InvalidText("a text has only printable ASCII characters and newlines")


def block(word, length, words):
    """The text of a word and a length, a row for each of the words, and an end."""
    rows = [MARGIN + "".join([str(one >> place & 1) for place in range(length)]) for one in words]
    return "".join([line + "\n" for line in [f"{word} {length}", *rows, LAST_LINE]])


def one_line(word, numbers):
    """The text of a word and of numbers behind it."""
    return " ".join([word, *[str(number) for number in numbers]]) + "\n"


def integer_in(piece):
    """The integer that is written so, or None if none is."""
    digits = piece.removeprefix("-")
    if not digits.isdigit() or len(digits) > MOST_DIGITS:
        return None
    number = int(piece)
    # zeros ahead, and a sign ahead of 0, are not written
    return number if str(number) == piece else None


def length_in(lines, word):
    """The length in the first line, behind the word."""
    first, *pieces = lines[0].split(" ") if lines else ("",)
    if first != word or len(pieces) != 1 or not is_from_to(integer_in(pieces[0]), 1, MOST_LENGTH):
        raise ParseError(0)
    return integer_in(pieces[0])


def row_in(length, line):
    """The word in a line, or None if there is none."""
    signs = line.removeprefix(MARGIN)
    if line != MARGIN + signs or len(signs) != length or signs.strip("01"):
        return None
    return word_at([place for place, sign in enumerate(signs) if sign == "1"])


def may_follow(words, row):
    """Whether the row can be the next word of a basis behind these."""
    if not row:
        return False
    head = head_place(row)
    return all([head < head_place(word) and not word >> head & 1 for word in words])


def read_block(text, word, is_basis):
    """The length and the tuple of the words in a text that begins with the word."""
    need_text(text)
    *lines, rest = text.split("\n")
    length = length_in(lines, word)
    words = []
    for line in lines[1:]:
        at = len(words) + 1
        if line == LAST_LINE:
            need_no_more(lines, rest, at)
            return length, tuple(words)
        row = row_in(length, line)
        if row is None or len(words) == MOST_WORDS or is_basis and not may_follow(words, row):
            raise ParseError(at)
        words.append(row)
    raise ParseError(len(lines))


def need_no_more(lines, rest, at):
    """Refuse what stands behind the line with this index, be it with a newline or without one."""
    if len(lines) > at + 1 or rest:
        raise ParseError(at + 1)


def read_line(text, word, is_right):
    """The tuple of the numbers in a text of one line that begins with the word; `is_right` judges them."""
    need_text(text)
    *lines, rest = text.split("\n")
    first, *pieces = lines[0].split(" ") if lines else ("",)
    numbers = tuple([integer_in(piece) for piece in pieces])
    if first != word or None in numbers or not is_right(numbers):
        raise ParseError(0)
    need_no_more(lines, rest, 0)
    return numbers


def is_short_exchange(numbers):
    """Whether the numbers are an exchange of 1 to 24 places."""
    return is_from_to(len(numbers), 1, MOST_PLACES) and is_exchange_of(len(numbers), numbers)


def is_row_of_counts(numbers):
    """Whether there are as many numbers as counts can have."""
    return is_from_to(len(numbers), LEAST_COUNTS, MOST_COUNTS)


def code_text(code):
    """The text of a code."""
    need_code(code)
    return block("code", code.length, code.basis)


def words_text(length, words):
    """The text of words."""
    need_length(length)
    need_words(length, words)
    return block("words", length, words)


def exchange_text(exchange):
    """The text of an exchange."""
    need_exchange(exchange)
    return one_line("exchange", exchange)


def counts_text(counts):
    """The text of counts."""
    need_counts(counts)
    return one_line("counts", counts)


def read_code(text):
    """The code that the text tells."""
    length, words = read_block(text, "code", True)
    return Code(length, words)


def read_words(text):
    """The length and the tuple of the words that the text tells."""
    return read_block(text, "words", False)


def read_exchange(text):
    """The exchange that the text tells."""
    return read_line(text, "exchange", is_short_exchange)


def read_counts(text):
    """The counts that the text tells."""
    return read_line(text, "counts", is_row_of_counts)
