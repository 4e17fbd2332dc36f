"""[20.1] to [20.4]: texts written and read back, and texts that are refused at their first wrong line."""

import functools
import itertools
import random
import re
import unittest

from ownchecks.code.codes import Code
from ownchecks.errors import InvalidText, ParseError
from ownchecks.text.texts import code_text, counts_text, exchange_text, read_code, read_counts, read_exchange, read_words
from ownchecks.text.texts import words_text
from tests import naive
from tests.kinds import EIGHT, GOLAY, LISTS, PLAIN, plain, small_codes, some, told

MOST = 10 ** 60 - 1


def row_of(length, word):
    return "  " + format(word, f"0{length}b")[::-1]


def is_number(piece):
    return re.fullmatch("0|-?[1-9][0-9]{0,59}", piece) is not None


def is_head(line, word):
    """Whether the line is the word and a length."""
    found = re.fullmatch(word + " ([1-9][0-9]?)", line)
    return found is not None and int(found.group(1)) <= 24


def spot_in_rows(text, word, may_stand):
    """The line that is refused in a text of rows, None if there is none; `may_stand` judges a row behind others."""
    lines = text.split("\n")
    ended = lines[:-1]
    if not ended or not is_head(ended[0], word):
        return 0
    length = int(ended[0].split()[1])
    rows = []
    for at, line in enumerate(ended[1:], 1):
        if line == "end":
            return None if at == len(ended) - 1 and lines[-1] == "" else at + 1
        if re.fullmatch("  [01]{%d}" % length, line) is None or not may_stand(rows, line[2:]):
            return at
        rows.append(line[2:])
    return len(ended)


def may_stand_in_code(rows, row):
    """By the signs alone: the place of the last 1 is that of the head."""
    head = row.rfind("1")
    return head >= 0 and all(other.rfind("1") > head and other[head] == "0" for other in rows)


def may_stand_in_words(rows, row):
    return len(rows) < 64


def spot_in_line(text, word, is_right):
    """The line that is refused in a text of one line, None if there is none."""
    ended = text.split("\n")[:-1]
    pieces = ended[0].split(" ") if ended else [""]
    if pieces[0] != word or not all(map(is_number, pieces[1:])) or not is_right([int(piece) for piece in pieces[1:]]):
        return 0
    return None if text == ended[0] + "\n" else 1


SPOTS = {
    read_code: lambda text: spot_in_rows(text, "code", may_stand_in_code),
    read_words: lambda text: spot_in_rows(text, "words", may_stand_in_words),
    read_exchange: lambda text: spot_in_line(text, "exchange", lambda numbers: 0 < len(numbers) < 25
                                             and sorted(numbers) == list(range(len(numbers)))),
    read_counts: lambda text: spot_in_line(text, "counts", lambda numbers: 1 < len(numbers) < 26),
}


def spot_of(read, text):
    """The line by which the text is refused, None if it is read."""
    try:
        read(text)
    except ParseError as error:
        assert type(error) is ParseError and type(error.spot) is int
        return error.spot
    return None


def bent(text, source):
    """Texts that differ from this one in a line or in some signs."""
    lines = text.split("\n")[:-1]
    join = "".join
    for at in range(len(lines) + 1):
        for more in (lines[source.randrange(len(lines))], "end", "", "  ", "0", "  01", "code 4", "words 2", "exchange 0"):
            yield join(line + "\n" for line in lines[:at] + [more] + lines[at:])
    for at, line in enumerate(lines):
        yield join(line + "\n" for line in lines[:at] + lines[at + 1:])
        yield join(line + "\n" for line in lines[:at + 1] + lines[at:])
        other = source.randrange(len(lines))
        swapped = list(lines)
        swapped[at], swapped[other] = lines[other], line
        yield join(one + "\n" for one in swapped)
        for new in (line + " ", " " + line, line[1:], line[:-1], line.upper(), line.replace("1", "0"), line.replace("0", "1"),
                    line.replace("1", "2"), line.replace(" ", "  ", 1), line.replace("0", "-0"), line + "1", line + "0",
                    line + " 1", line.replace("1", "01", 1), line.replace(" ", " +", 1), line[::-1]):
            yield join(one + "\n" for one in lines[:at] + [new] + lines[at + 1:])
    for many in (0, 1, len(text) // 2, len(text) - 2, len(text) - 1):
        yield text[:many]
    for more in ("\n", " ", " \n", "end\n", "end", text, "x"):
        yield text + more
        yield more + text


@functools.lru_cache(None)
def right_texts():
    """Pairs of a function that reads and of a right text."""
    found = [(read_code, code_text(code)) for _, _, code in small_codes(1, 4)]
    found += [(read_code, code_text(code)) for length in (2, 4, 6, 8) for _, code in told(length)[::11]]
    found += [(read_code, code_text(code)) for code in (GOLAY, plain(24), Code(24, tuple(2 ** at for at in range(24))))]
    source = random.Random(211)
    for length in (1, 2, 3, 7, 24):
        for many in (0, 1, 2, 64):
            found.append((read_words, words_text(length, tuple(source.randrange(2 ** length) for _ in range(many)))))
    for length in (1, 2, 3, 9, 10, 11, 24):
        exchange = list(range(length))
        source.shuffle(exchange)
        found.append((read_exchange, exchange_text(tuple(exchange))))
    for row in ((0, 0), (1, -1), (MOST, -MOST, 0), (1, 0, 6, 0, 1), tuple(range(25)), (MOST,) * 25, (-10, 100)):
        found.append((read_counts, counts_text(row)))
    return tuple(found)


class WrittenAndReadBack(unittest.TestCase):
    def test_codes(self):
        seen = {}
        codes = [code for _, _, code in small_codes(1, 4)]
        codes += [code for length in (2, 4, 6, 8) for _, code in told(length)] + [GOLAY]
        codes += some(212, range(10, 26, 2), 3) + [Code(length, ()) for length in range(1, 25)]
        codes += [Code(length, tuple(2 ** at for at in range(length))) for length in range(1, 25)]
        for code in codes:
            text = code_text(code)
            rows = [row_of(code.length, word) for word in code.basis]
            self.assertEqual(text, "\n".join([f"code {code.length}", *rows, "end", ""]))
            self.assertEqual(read_code(text), code)
            self.assertEqual(seen.setdefault(text, code), code)
        # unlike codes have unlike texts
        self.assertEqual(len(seen), len({(code.length, code.basis) for code in codes}))

    def test_words(self):
        seen = {}
        for length, words in [*naive.small_tuples(), *naive.made_tuples(213, range(1, 25), 64, 4)]:
            text = words_text(length, words)
            self.assertEqual(text, "\n".join([f"words {length}", *[row_of(length, word) for word in words], "end", ""]))
            answer = read_words(text)
            self.assertEqual(answer, (length, words))
            self.assertEqual([type(answer), type(answer[0]), type(answer[1])], [tuple, int, tuple])
            self.assertEqual(seen.setdefault(text, (length, words)), (length, words))
        for many in (0, 1, 63, 64):
            words = tuple(range(many))
            self.assertEqual(read_words(words_text(24, words)), (24, words))

    def test_exchanges(self):
        source = random.Random(214)
        seen = set()
        exchanges = [one for length in range(1, 6) for one in itertools.permutations(range(length))]
        exchanges += [tuple(source.sample(range(length), length)) for length in range(6, 25) for _ in range(5)]
        for exchange in exchanges:
            text = exchange_text(exchange)
            self.assertEqual(text, "exchange " + " ".join(map(str, exchange)) + "\n")
            self.assertEqual(read_exchange(text), exchange)
            self.assertIs(type(read_exchange(text)), tuple)
            seen.add(text)
        self.assertEqual(len(seen), len(set(exchanges)))

    def test_counts(self):
        source = random.Random(215)
        seen = set()
        rows = list(itertools.product((-1, 0, 1, 10), repeat=2)) + list(itertools.product((-1, 0, 1, 10), repeat=3))
        rows += [tuple(source.randrange(-MOST, MOST + 1) for _ in range(many)) for many in range(2, 26)]
        rows += [tuple(source.randrange(-20, 20) for _ in range(many)) for many in range(2, 26)] + [(MOST, -MOST)]
        for row in rows:
            text = counts_text(row)
            self.assertEqual(text, "counts " + " ".join(map(str, row)) + "\n")
            self.assertEqual(read_counts(text), row)
            seen.add(text)
        self.assertEqual(len(seen), len(set(rows)))


class Refused(unittest.TestCase):
    def test_right_texts_are_read_as_one_kind_alone(self):
        for read, text in right_texts():
            for other in SPOTS:
                spot = spot_of(other, text)
                self.assertEqual(spot, SPOTS[other](text))
                self.assertIs(spot is None, other is read)

    def test_bent_texts(self):
        source = random.Random(216)
        spots = set()
        for read, text in right_texts():
            for wrong in bent(text, source):
                told_spot = SPOTS[read](wrong)
                spots.add(told_spot)
                self.assertEqual(spot_of(read, wrong), told_spot, wrong)
                if told_spot is None:
                    # what is read is written so again
                    write = {read_code: code_text, read_words: lambda pair: words_text(*pair),
                             read_exchange: exchange_text, read_counts: counts_text}[read]
                    self.assertEqual(write(read(wrong)), wrong)
        self.assertLess({None, 0, 1, 2, 3, 4, 5, 6, 26, 66}, spots)

    def test_many_more_bent_signs(self):
        source = random.Random(217)
        for read, text in right_texts()[::3]:
            for _ in range(40):
                signs = list(text)
                for _ in range(source.randrange(1, 3)):
                    at = source.randrange(len(signs))
                    signs[at:at + source.randrange(2)] = source.choice(["", " ", "0", "1", "\n", "-", "e", "\n  0", "\nend\n"])
                wrong = "".join(signs)
                self.assertEqual(spot_of(read, wrong), SPOTS[read](wrong), wrong)

    def test_short_codes_against_all_right_texts(self):
        texts = [code_text(code).split("\n") for _, _, code in small_codes(1, 3)]
        starts = {tuple(lines[:many]) for lines in texts for many in range(1, len(lines))}
        whole = {tuple(lines[:-1]) for lines in texts}
        parts = ["end", "  0", "  1", "  01", "  10", "  11", "  00", "  110", "  011", "code 2"]
        for first in ("code 1", "code 2", "code 3"):
            for many in range(4):
                for rest in itertools.product(parts, repeat=many):
                    lines = (first,) + rest
                    wrong = [at for at in range(len(lines)) if lines[:at + 1] not in starts]
                    spot = wrong[0] if wrong else None if lines in whole else len(lines)
                    text = "".join(line + "\n" for line in lines)
                    self.assertEqual(spot_of(read_code, text), spot)
                    # without the last newline the last line is refused, or one ahead of it
                    self.assertEqual(spot_of(read_code, text[:-1]), len(lines) - 1 if spot is None else min(spot, len(lines) - 1))

    def test_lengths(self):
        for read, word in ((read_code, "code"), (read_words, "words")):
            for length in range(1, 25):
                text = f"{word} {length}\nend\n"
                read(text)
                for wrong in (f"{word} 0{length}\nend\n", f"{word}  {length}\nend\n", f"{word} {length} \nend\n",
                              f"{word} +{length}\nend\n", f"{word} -{length}\nend\n", f" {word} {length}\nend\n",
                              f"{word} {length} 1\nend\n", f"{word}{length}\nend\n", f"{word.upper()} {length}\nend\n"):
                    self.assertEqual(spot_of(read, wrong), 0)
            for wrong in (0, 25, 26, 240, 10 ** 59, 10 ** 60, "", "x", "1_0", "-0"):
                self.assertEqual(spot_of(read, f"{word} {wrong}\nend\n"), 0)
            for wrong in (f"{word}\nend\n", f"{word} \nend\n", "end\n", "\nend\n", f"{word} 4", f"{word} 4 end\n", "\n", ""):
                self.assertEqual(spot_of(read, wrong), 0)
            self.assertEqual(spot_of(read, f"{word} 4\n"), 1)
            self.assertEqual(spot_of(read, f"{word} 4\nend"), 1)
            self.assertEqual(spot_of(read, f"{word} 4\n end\n"), 1)

    def test_rows(self):
        for rows, spot in ((["0000"], 1), (["1000", "1000"], 2), (["1000", "0100"], 2), (["0100", "1000"], None),
                           (["0011", "1100"], None), (["0011", "0010"], 2), (["0011", "1110"], 2), (["1110", "1100"], 2),
                           (["0001", "0010", "0100", "1000"], None), (["0001", "0010", "0100", "1000", "1000"], 5),
                           (["0001", "0010", "0100", "1000", "0000"], 5), (["000"], 1), (["00011"], 1), (["0002"], 1),
                           (["0001", "001"], 2), (["0101", "1100"], 2), (["1111", "0000"], 2), ([" 001"], 1), (["001 "], 1)):
            text = "code 4\n" + "".join(f"  {row}\n" for row in rows) + "end\n"
            self.assertEqual(spot_of(read_code, text), spot, rows)
        for line in (" 0011", "   0011", "0011", "  0011 ", "", "  ", "  end", "End", "end ", " end", "  0O11", "  +011"):
            for read, word in ((read_code, "code"), (read_words, "words")):
                self.assertEqual(spot_of(read, f"{word} 4\n  0001\n{line}\nend\n"), 2)

    def test_one_row_too_many(self):
        rows = ["  10\n"] * 64
        self.assertEqual(read_words("words 2\n" + "".join(rows) + "end\n"), (2, (1,) * 64))
        for more in ("  10\n", "  xx\n", "  1\n", "\n", "  10"):
            self.assertEqual(spot_of(read_words, "words 2\n" + "".join(rows) + more), 65)
            self.assertEqual(spot_of(read_words, "words 2\n" + "".join(rows) + more + "\nend\n"), 65)
        self.assertEqual(spot_of(read_words, "words 2\n" + "".join(rows)), 65)

    def test_behind_the_end(self):
        for more in ("end\n", "\n", " ", "x", "  0011\n", "code 4\n", "\n\n\n"):
            self.assertEqual(spot_of(read_code, "code 4\n  0011\nend\n" + more), 3)
            self.assertEqual(spot_of(read_words, "words 4\n  0011\nend\n" + more), 3)
            self.assertEqual(spot_of(read_exchange, "exchange 0\n" + more), 1)
            self.assertEqual(spot_of(read_counts, "counts 0 0\n" + more), 1)
            self.assertEqual(spot_of(read_exchange, "exchange 1\n" + more), 0)

    def test_exchanges_and_counts(self):
        for told_line in ("", " ", " 1", " 0 0", " 1 2", " 0 2", " 00", " 0 01", " -0", " -1 0", " 0 1 ", "  0 1", " 0  1", " +0",
                          " a", " 0,1", " 0 1 1", " " + str(10 ** 60), " " + " ".join(map(str, range(25))), " 0.0", "0"):
            self.assertEqual(spot_of(read_exchange, f"exchange{told_line}\n"), 0)
        self.assertEqual(read_exchange("exchange " + " ".join(map(str, range(24))) + "\n"), tuple(range(24)))
        for told_line in ("", " ", " 1", " 0 ", " 1 00", " 01 1", " -0 1", " 1 +1", " 1 1-", " 1 --1", " 1 1 ", "  1 1", " 1  1",
                          " 1 x", " 1 1e3", f" 1 {10 ** 60}", f" 1 -{10 ** 60}", " 1 0" + "0" * 60, " 0" * 26, " 1 1_0", " 1 -"):
            self.assertEqual(spot_of(read_counts, f"counts{told_line}\n"), 0)
        self.assertEqual(read_counts("counts" + " 0" * 25 + "\n"), (0,) * 25)
        self.assertEqual(read_counts(f"counts {MOST} -{MOST}\n"), (MOST, -MOST))
        for read in (read_exchange, read_counts):
            for text in ("", "\n", "exchange", "counts", "exchange 0", "counts 1 0", "Exchange 0\n", "COUNTS 1 0\n", "exchange 0 "):
                self.assertEqual(spot_of(read, text), 0)

    def test_what_is_no_text(self):
        good = {read_code: "code 1\nend\n", read_words: "words 1\nend\n", read_exchange: "exchange 0\n", read_counts: "counts 1 1\n"}
        for read, text in good.items():
            for sign in ("\t", "\r", "\x00", "\x0b", "\x0c", "\x1f", "\x7f", "\x80", "\x85", "\u00e9", "\u2028", "\u0661"):
                for wrong in (sign, text + sign, sign + text, text.replace(" ", sign), text[:-1] + sign + "\n"):
                    with self.assertRaises(InvalidText):
                        read(wrong)
            for wrong in (None, True, 0, text.encode(), (text,), [text], text.split("\n"), {text: 1}, PLAIN):
                with self.assertRaises(InvalidText):
                    read(wrong)

    def test_long_texts(self):
        for read in SPOTS:
            for sign in ("x", " ", "\n", "0"):
                self.assertEqual(spot_of(read, sign * 10000), 0)
                for many in (10001, 12000):
                    with self.assertRaises(InvalidText):
                        read(sign * many)
        start = "words 24\n" + words_text(24, (5,) * 64)[9:-4]
        self.assertEqual(spot_of(read_words, start + "end\n"), None)
        self.assertEqual(spot_of(read_words, start + "x" * (10000 - len(start))), 65)


class Untrue(unittest.TestCase):
    """[20.4]"""

    def test_a_code_without_one_of_its_rows(self):
        self.assertEqual(read_code("code 4\n  1100\nend\n"), Code(4, (3,)))
        lines = code_text(EIGHT).split("\n")
        for at in range(1, 5):
            self.assertEqual(read_code("\n".join(lines[:at] + lines[at + 1:])).dimension, 3)

    def test_words_with_one_span(self):
        self.assertNotEqual(words_text(4, (3, 12)), words_text(4, (12, 15)))
        self.assertEqual(code_text(Code(4, (3, 12))), code_text(Code(4, (12, 15))))

    def test_refused_by_its_first_line_alone(self):
        self.assertEqual(spot_of(read_code, "kode 4\n  0011\nend\n"), 0)
        self.assertEqual(read_code("code 4\n  0011\nend\n"), Code(4, (12,)))
        self.assertEqual([len(LISTS[8]), spot_of(read_code, "kode 4\n  0000\nend\n")], [2, 0])


if __name__ == "__main__":
    unittest.main()
