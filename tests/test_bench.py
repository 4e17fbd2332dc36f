"""[21.1] to [21.4]: a bench, held against a list of places that the test keeps by itself."""

import itertools
import random
import unittest

from ownchecks.bench.bench import Bench
from ownchecks.code.codes import Code
from ownchecks.errors import InvalidCode, InvalidNumber, InvalidOperation, InvalidText, InvalidWord, NothingToUndo
from ownchecks.errors import TooMany, UnknownName
from ownchecks.near.every import child, parent
from ownchecks.near.neighbours import distance, neighbour
from ownchecks.same.exchanges import exchange_or_none, exchanged
from ownchecks.same.parts import side_by_side
from tests import naive
from tests.kinds import EIGHT, GOLAY, MIXED, PAIR, PLAIN, SEVENS, SIXTEEN, STRIP, mixed_up, plain, some, told

TURNED = exchanged(PLAIN, (7, 1, 2, 3, 4, 5, 6, 0))
EDITS = ("put", "drop", "step", "turn", "grow", "shrink", "unite")


def bench_of(**codes):
    bench = Bench()
    for name, code in codes.items():
        bench.put(name, code)
    return bench


def told_of(bench):
    """All that a bench shows but its answers."""
    return bench.names, [bench.code_of(name) for name in bench.names], len(bench), str(bench)


def answers_of(bench):
    return {pair: bench.known(*pair) for pair in itertools.product(bench.names, repeat=2)}


class Model:
    """The places as [21.1] and [21.2] tell them: dicts that are copied for each edit."""

    def __init__(self):
        self.places = [({}, {})]
        self.at = 0

    @property
    def codes(self):
        return self.places[self.at][0]

    @property
    def answers(self):
        return self.places[self.at][1]

    def edit(self, name, code, kept=lambda pair: True):
        codes = dict(self.codes)
        codes.pop(name, None)
        if code is not None:
            codes[name] = code
        answers = {pair: answer for pair, answer in self.answers.items() if kept(pair)}
        self.places[self.at + 1:] = [(codes, answers)]
        self.at += 1

    def drop(self, name):
        self.edit(name, None, lambda pair: name not in pair)

    def right(self, pair):
        """The answer that was told last, if it is right for the codes as they are now."""
        answer = self.answers.get(pair)
        one, other = self.codes[pair[0]], self.codes[pair[1]]
        if answer is None or one.length != other.length:
            return None
        if answer[0] == "alike":
            fits = len(answer[1]) == one.length
            return answer if fits and naive.led_code(answer[1], naive.sums(one.basis)) == naive.sums(other.basis) else None
        return answer if exchange_or_none(one, other) is None else None


class Walks(unittest.TestCase):
    def an_edit(self, model, source):
        """A method, its arguments, and what it makes of the model, for an edit that raises no error."""
        names = sorted(model.codes)
        name = source.choice(names) if names else None
        kind = source.choice(EDITS if names else ("put",))
        if kind == "put":
            name = source.choice("ab cd e f".split() + names)
            return kind, (name, self.some_code(source)), lambda code: model.edit(name, code)
        code = model.codes[name]
        if kind == "drop":
            return kind, (name,), lambda _: model.drop(name)
        if kind == "step":
            span = naive.sums(code.basis)
            words = [word for word in range(min(2 ** code.length, 300)) if word not in span and naive.ones(word) % 2 == 0]
            if not words:
                return None
            word = source.choice(words)
            return kind, (name, word), lambda _: model.edit(name, neighbour(code, word))
        if kind == "turn":
            exchange = mixed_up(code.length, source)
            return kind, (name, exchange), lambda _: model.edit(name, exchanged(code, exchange))
        if kind == "grow" and code.length < 12:
            digit = source.randrange(2 ** (code.length // 2) + 1)
            return kind, (name, digit), lambda _: model.edit(name, parent(code, digit))
        if kind == "shrink" and code.length > 2:
            one, other = sorted(source.sample(range(code.length), 2))
            return kind, (name, one, other), lambda _: model.edit(name, child(code, one, other))
        other = source.choice(names)
        if kind == "unite" and code.length + model.codes[other].length < 14:
            new = source.choice("ab cd e f".split() + names)
            return kind, (new, name, other), lambda _: model.edit(new, side_by_side((code, model.codes[other])))
        return None

    def some_code(self, source):
        length = source.choice((2, 4, 6, 8, 8, 8))
        return source.choice(told(length))[1]

    def check(self, bench, model, source):
        self.assertEqual(bench.names, tuple(sorted(model.codes)))
        self.assertEqual(len(bench), len(model.codes))
        self.assertEqual(str(bench), f"bench of {len(model.codes)} codes, {model.at} edits")
        for name, code in model.codes.items():
            self.assertEqual(bench.code_of(name), code)
            self.assertIs(name in bench, True)
        for name, other in source.sample(list(itertools.product(model.codes, repeat=2)), min(3, len(model.codes) ** 2)):
            one, then = model.codes[name], model.codes[other]
            self.assertEqual(bench.known(name, other), model.right((name, other)))
            if one.length == then.length:
                self.assertEqual(bench.apart(name, other), distance(one, then))
            else:
                for call in (bench.apart, bench.ask):
                    with self.assertRaises(InvalidOperation):
                        call(name, other)

    def ask(self, bench, model, pair):
        one, other = model.codes[pair[0]], model.codes[pair[1]]
        if one.length != other.length:
            return
        kept = model.right(pair)
        answer = bench.ask(*pair)
        if kept is not None:
            self.assertEqual(answer, kept)
        elif answer[0] == "alike":
            self.assertEqual(exchanged(one, answer[1]), other)
        else:
            self.assertEqual(answer, ("unlike",))
            self.assertIsNone(exchange_or_none(one, other))
        model.answers[pair] = answer
        self.assertEqual(bench.known(*pair), answer)

    def test_many_in_a_row(self):
        seen = {}
        for seed in range(12):
            source = random.Random(220 + seed)
            bench, model = Bench(), Model()
            for _ in range(120):
                move = source.randrange(10)
                if move < 5:
                    edit = self.an_edit(model, source)
                    if edit is not None:
                        kind, arguments, follow = edit
                        self.assertIsNone(getattr(bench, kind)(*arguments))
                        follow(arguments[-1])
                        seen[kind] = seen.get(kind, 0) + 1
                elif move == 5:
                    if model.at:
                        self.assertIsNone(bench.undo())
                        model.at -= 1
                    else:
                        with self.assertRaises(NothingToUndo) as caught:
                            bench.undo()
                        self.assertEqual(caught.exception.done, 1)
                elif move == 6:
                    if model.at + 1 < len(model.places):
                        self.assertIsNone(bench.redo())
                        model.at += 1
                        seen["redo"] = seen.get("redo", 0) + 1
                    else:
                        with self.assertRaises(NothingToUndo) as caught:
                            bench.redo()
                        self.assertEqual(caught.exception.done, -1)
                elif model.codes:
                    names = sorted(model.codes)
                    self.ask(bench, model, (source.choice(names), source.choice(names)))
                self.check(bench, model, source)
            # all the way back, and on again: codes and answers are those of each place
            while model.at:
                bench.undo()
                model.at -= 1
                self.check(bench, model, source)
            for _ in model.places[1:]:
                bench.redo()
                model.at += 1
                self.check(bench, model, source)
        self.assertGreater(min(seen.values()), 10)
        self.assertEqual(set(seen), {*EDITS, "redo"})


class Edits(unittest.TestCase):
    def test_put(self):
        bench = Bench()
        self.assertIsNone(bench.put("one", PLAIN))
        self.assertEqual([bench.code_of("one"), bench.names, len(bench)], [PLAIN, ("one",), 1])
        bench.put("one", EIGHT)
        self.assertEqual([bench.code_of("one"), bench.names, str(bench)], [EIGHT, ("one",), "bench of 1 codes, 2 edits"])

    def test_drop(self):
        bench = bench_of(a=PLAIN, b=EIGHT)
        bench.ask("a", "b")
        bench.ask("b", "b")
        self.assertIsNone(bench.drop("a"))
        self.assertEqual([bench.names, "a" in bench, bench.known("b", "b")[0]], [("b",), False, "alike"])
        bench.put("a", PLAIN)
        self.assertIsNone(bench.known("a", "b"))
        bench.undo()
        bench.undo()
        self.assertEqual([bench.names, bench.known("a", "b")], [("a", "b"), ("unlike",)])

    def test_dropped_answers_in_each_sequence(self):
        bench = bench_of(a=PLAIN, b=EIGHT, c=TURNED)
        for pair in itertools.product("abc", repeat=2):
            bench.ask(*pair)
        bench.drop("b")
        bench.put("b", EIGHT)
        known = {pair: answer is not None for pair, answer in answers_of(bench).items()}
        self.assertEqual(known, {pair: "b" not in pair for pair in itertools.product("abc", repeat=2)})

    def test_each_edit_by_its_function(self):
        bench = bench_of(a=PLAIN, b=PAIR)
        for method, arguments, code in (("step", ("a", 5), neighbour(PLAIN, 5)),
                                        ("turn", ("a", (7, 1, 2, 3, 4, 5, 6, 0)), TURNED),
                                        ("grow", ("a", 16), parent(PLAIN, 16)), ("shrink", ("a", 0, 7), child(PLAIN, 0, 7)),
                                        ("unite", ("a", "a", "b"), side_by_side((PLAIN, PAIR))),
                                        ("unite", ("a", "b", "a"), side_by_side((PAIR, PLAIN))),
                                        ("unite", ("a", "a", "a"), side_by_side((PLAIN, PLAIN)))):
            self.assertIsNone(getattr(bench, method)(*arguments))
            self.assertEqual([bench.code_of("a"), bench.code_of("b"), str(bench)], [code, PAIR, "bench of 2 codes, 3 edits"])
            bench.undo()
            self.assertEqual(bench.code_of("a"), PLAIN)

    def test_unite_under_a_new_name(self):
        bench = bench_of(a=PLAIN, b=SEVENS, c=SIXTEEN[4], d=PAIR)
        bench.unite("sum", "a", "c")
        self.assertEqual([bench.code_of("sum"), bench.code_of("a")], [side_by_side((PLAIN, SIXTEEN[4])), PLAIN])
        for pair in (("c", "c"), ("sum", "d"), ("d", "sum"), ("b", "c")):
            with self.assertRaises(InvalidOperation):
                bench.unite("more", *pair)
        bench.unite("more", "b", "a")
        self.assertEqual(bench.names, ("a", "b", "c", "d", "more", "sum"))

    def test_twelve_codes_and_one_more(self):
        bench = Bench()
        for at in range(12):
            bench.put("abcdefghijkl"[at], plain(2 * at + 2))
        before = told_of(bench)
        for method, arguments in (("put", ("m", PAIR)), ("unite", ("m", "a", "a"))):
            with self.assertRaises(TooMany) as caught:
                getattr(bench, method)(*arguments)
            self.assertEqual(caught.exception.limit, 12)
            self.assertEqual(told_of(bench), before)
        # what has a name already makes no more
        bench.put("l", PAIR)
        bench.unite("k", "a", "a")
        self.assertEqual([len(bench), bench.code_of("k")], [12, plain(4)])
        bench.drop("a")
        bench.put("m", PAIR)
        self.assertEqual(len(bench), 12)
        # a sum that is too long goes ahead of too many codes
        with self.assertRaises(InvalidOperation):
            bench.unite("n", "j", "j")

    def test_names(self):
        bench = Bench()
        for name in ("a", "z", "abcdefgh", "zzzzzzzz", "put"):
            bench.put(name, PAIR)
            self.assertIs(name in bench, True)
        self.assertEqual(bench.names, ("a", "abcdefgh", "put", "z", "zzzzzzzz"))
        for name in ("", "abcdefghi", "A", "aB", "a1", "a b", "a_b", "a\n", " a", "\u00e9", "\u00df", "\u0430", "-", None, True, 0,
                     1, ("a",), ["a"], {"a": 1}, PAIR, 10 ** 60, b"a"):
            for call, more in ((bench.put, (PAIR,)), (bench.unite, ("a", "a"))):
                with self.assertRaises(InvalidText):
                    call(name, *more)
            with self.assertRaises(UnknownName) as caught:
                bench.code_of(name)
            self.assertIs(caught.exception.wanted, name)
            self.assertIs(name in bench, False)
        self.assertEqual(len(bench), 5)

    def test_unknown_names(self):
        bench = bench_of(a=PLAIN, b=EIGHT)
        before = told_of(bench)
        for call, arguments in ((bench.drop, ()), (bench.step, (5,)), (bench.turn, (tuple(range(8)),)), (bench.grow, (0,)),
                                (bench.shrink, (0, 1)), (bench.code_of, ()), (bench.ask, ("a",)), (bench.known, ("a",)),
                                (bench.apart, ("a",))):
            for name in ("c", "A", "", "aa", None, 0, ("a",), ["a"], {}, True, PLAIN):
                with self.assertRaises(UnknownName) as caught:
                    call(name, *arguments)
                self.assertIs(caught.exception.wanted, name)
        for call in (bench.ask, bench.known, bench.apart, lambda *names: bench.unite("c", *names)):
            for pair, wanted in ((("c", "a"), "c"), (("a", "c"), "c"), (("d", "c"), "d"), ((None, 1), None), (("b", []), [])):
                with self.assertRaises(UnknownName) as caught:
                    call(*pair)
                self.assertEqual(caught.exception.wanted, wanted)
        self.assertEqual(told_of(bench), before)

    def test_a_call_that_raises_an_error_changes_nothing(self):
        bench = bench_of(a=PLAIN, b=EIGHT, c=GOLAY, d=PAIR)
        bench.ask("a", "b")
        bench.ask("a", "a")
        bench.put("e", MIXED)
        bench.undo()
        before = told_of(bench), answers_of(bench)
        for call, arguments, error in (
                (bench.put, ("A", PLAIN), InvalidText), (bench.put, ("a", None), InvalidCode),
                (bench.put, ("a", Code(8, (15,))), InvalidCode), (bench.drop, ("x",), UnknownName),
                (bench.step, ("a", 256), InvalidWord), (bench.step, ("a", 7), InvalidOperation),
                (bench.step, ("a", 3), InvalidOperation), (bench.turn, ("a", (0, 1)), InvalidOperation),
                (bench.grow, ("a", 17), InvalidNumber), (bench.grow, ("c", 0), TooMany),
                (bench.grow, ("c", 4097), InvalidNumber), (bench.shrink, ("a", 8, 0), InvalidNumber),
                (bench.shrink, ("a", 0, -1), InvalidNumber), (bench.shrink, ("a", 1, 0), InvalidOperation),
                (bench.shrink, ("d", 0, 1), InvalidOperation), (bench.unite, ("a", "c", "d"), InvalidOperation),
                (bench.unite, ("", "a", "b"), InvalidText), (bench.unite, ("a", "x", "b"), UnknownName),
                (bench.ask, ("a", "c"), InvalidOperation), (bench.ask, ("c", "c"), TooMany),
                (bench.apart, ("a", "d"), InvalidOperation), (bench.code_of, ("x",), UnknownName)):
            with self.assertRaises(error):
                call(*arguments)
            self.assertEqual((told_of(bench), answers_of(bench)), before)
        # what could be redone can be redone still
        bench.redo()
        self.assertEqual(bench.code_of("e"), MIXED)


class UndoAndRedo(unittest.TestCase):
    def test_nothing_to_undo_or_redo(self):
        bench = Bench()
        for _ in range(2):
            with self.assertRaises(NothingToUndo) as caught:
                bench.undo()
            self.assertEqual(caught.exception.done, 1)
            with self.assertRaises(NothingToUndo) as caught:
                bench.redo()
            self.assertEqual(caught.exception.done, -1)
            self.assertEqual(str(bench), "bench of 0 codes, 0 edits")
        bench.put("a", PAIR)
        bench.undo()
        bench.put("a", EIGHT)
        with self.assertRaises(NothingToUndo) as caught:
            bench.redo()
        self.assertEqual(caught.exception.done, -1)
        self.assertEqual(bench.code_of("a"), EIGHT)

    def test_answers_come_back_with_their_place(self):
        bench = bench_of(a=PLAIN, b=TURNED, c=EIGHT)
        first = bench.ask("a", "b")
        bench.step("a", 5)
        bench.ask("a", "c")
        bench.undo()
        self.assertEqual([bench.known("a", "b"), bench.known("a", "c")], [first, None])
        bench.redo()
        self.assertEqual(bench.known("a", "c"), ("unlike",))
        bench.undo()
        # an answer that is told here is not there at the next place
        bench.ask("c", "c")
        bench.redo()
        self.assertIsNone(bench.known("c", "c"))
        bench.undo()
        self.assertEqual(bench.known("c", "c")[0], "alike")

    def test_asking_ends_no_redo(self):
        bench = bench_of(a=PLAIN, b=EIGHT)
        bench.drop("b")
        bench.undo()
        bench.ask("a", "b")
        bench.known("a", "b")
        bench.redo()
        self.assertEqual([bench.names, str(bench)], [("a",), "bench of 1 codes, 3 edits"])


class Answers(unittest.TestCase):
    def test_told_again_as_long_as_they_are_right(self):
        bench = bench_of(a=PLAIN, b=TURNED)
        answer = bench.ask("a", "b")
        self.assertEqual(exchanged(PLAIN, answer[1]), TURNED)
        self.assertIs(bench.ask("a", "b"), answer)
        bench.put("a", EIGHT)
        self.assertIsNone(bench.known("a", "b"))
        bench.put("a", PLAIN)
        # it was kept while it was not right, and nothing else was told
        self.assertEqual([bench.known("a", "b"), bench.ask("a", "b")], [answer, answer])
        bench.put("a", EIGHT)
        self.assertEqual(bench.ask("a", "b"), ("unlike",))
        bench.put("a", PLAIN)
        self.assertIsNone(bench.known("a", "b"))

    def test_right_for_other_codes_too(self):
        keeping = (1, 0, 2, 3, 4, 5, 6, 7)
        bench = bench_of(a=PLAIN, b=TURNED)
        answer = bench.ask("a", "b")
        # both codes are exchanged such that the told exchange leads still
        bench.turn("a", keeping)
        self.assertEqual([bench.code_of("a"), bench.ask("a", "b")], [PLAIN, answer])
        for other in [code for _, code in told(8)][::10]:
            bench.put("a", other)
            bench.put("b", exchanged(other, answer[1]))
            self.assertEqual([bench.known("a", "b"), bench.ask("a", "b")], [answer, answer])

    def test_unlike_as_long_as_it_is_so(self):
        bench = bench_of(a=PLAIN, b=EIGHT)
        self.assertEqual(bench.ask("a", "b"), ("unlike",))
        bench.put("a", TURNED)
        self.assertEqual(bench.known("a", "b"), ("unlike",))
        bench.grow("a", 0)
        self.assertIsNone(bench.known("a", "b"))
        bench.grow("b", 0)
        # both are longer by a pair, and unlike as ever
        self.assertEqual(bench.known("a", "b"), ("unlike",))
        bench.step("a", 85)
        self.assertEqual(bench.known("a", "b"), ("unlike",) if exchange_or_none(bench.code_of("a"), bench.code_of("b")) is None
                         else None)

    def test_only_in_this_sequence(self):
        bench = bench_of(a=PLAIN, b=TURNED)
        bench.ask("a", "b")
        self.assertEqual([bench.known("b", "a"), bench.known("a", "a"), bench.known("b", "b")], [None] * 3)
        self.assertEqual(exchanged(TURNED, bench.ask("b", "a")[1]), PLAIN)
        self.assertEqual(exchanged(PLAIN, bench.ask("a", "a")[1]), PLAIN)

    def test_long_codes(self):
        bench = bench_of(a=SIXTEEN[5], b=SIXTEEN[5], c=SIXTEEN[4])
        alike = bench.ask("a", "b")
        self.assertEqual([alike[0], bench.ask("a", "c")], ["alike", ("unlike",)])
        for name in "abc":
            bench.grow(name, 0)
        for pair in (("a", "b"), ("a", "c")):
            with self.assertRaises(TooMany) as caught:
                bench.ask(*pair)
            self.assertEqual(caught.exception.limit, 16)
        # an exchange is looked at by leading alone, and this one is too short now
        self.assertIsNone(bench.known("a", "b"))
        with self.assertRaises(TooMany) as caught:
            bench.known("a", "c")
        self.assertEqual(caught.exception.limit, 16)
        self.assertIsNone(bench.known("b", "c"))
        self.assertEqual(bench.apart("a", "b"), 0)
        bench.put("c", PAIR)
        self.assertIsNone(bench.known("a", "c"))
        with self.assertRaises(InvalidOperation):
            bench.ask("a", "c")

    def test_of_all_kinds(self):
        for one, other in itertools.product([PAIR, PLAIN, EIGHT, TURNED, MIXED, STRIP, SEVENS], repeat=2):
            bench = bench_of(a=one, b=other)
            if one.length != other.length:
                with self.assertRaises(InvalidOperation):
                    bench.ask("a", "b")
                self.assertIsNone(bench.known("a", "b"))
                continue
            answer = bench.ask("a", "b")
            self.assertIs(type(answer), tuple)
            if answer == ("unlike",):
                self.assertIsNone(exchange_or_none(one, other))
            else:
                self.assertEqual((answer[0], exchanged(one, answer[1])), ("alike", other))


class Roads(unittest.TestCase):
    """[21.3]"""

    def test_one_step_and_one_exchange(self):
        source = random.Random(231)
        for length in (4, 6, 8, 12, 18, 24):
            codes = some(232 + length, (length,), 6)
            bench = bench_of(a=codes[0], b=codes[1], c=codes[2], d=codes[3], e=codes[4], f=codes[5])
            for _ in range(10):
                name = source.choice("abcdef")
                before = {other: bench.apart(name, other) for other in "abcdef" if other != name}
                code = bench.code_of(name)
                if source.randrange(2):
                    word = source.randrange(2 ** length)
                    if naive.ones(word) % 2 or word in naive.sums(code.basis):
                        continue
                    bench.step(name, word)
                else:
                    bench.turn(name, naive.swapped(length, *source.sample(range(length), 2)))
                for other, far in before.items():
                    self.assertLessEqual(abs(bench.apart(name, other) - far), 1)
                    self.assertEqual(bench.apart(name, other), bench.apart(other, name))
                self.assertLessEqual(distance(code, bench.code_of(name)), 1)

    def test_distances(self):
        bench = bench_of(a=PLAIN, b=EIGHT, c=Code(8, (129, 66, 36, 24)), d=Code(8, (129, 6, 24, 96)))
        spans = [naive.sums(bench.code_of(name).basis) for name in "abcd"]
        self.assertEqual([[bench.apart(one, other) for other in "abcd"] for one in "abcd"],
                         [[naive.apart(one, other) for other in spans] for one in spans])
        self.assertEqual([bench.apart("a", other) for other in "abcd"], [0, 1, 2, 3])


class Values(unittest.TestCase):
    def test_equal_benches(self):
        one, other = bench_of(a=PLAIN, b=EIGHT), bench_of(b=EIGHT, a=TURNED)
        self.assertIs(one == other, False)
        self.assertIs(one != other, True)
        other.put("a", PLAIN)
        other.ask("a", "b")
        self.assertIs(one == other, True)
        self.assertIs(one != other, False)
        other.put("c", PLAIN)
        self.assertIs(one == other, False)
        other.drop("c")
        other.drop("b")
        self.assertIs(one == other, False)
        self.assertIs(Bench() == Bench(), True)
        for value in (None, True, 0, (), {}, {"a": PLAIN, "b": EIGHT}, "bench of 2 codes, 2 edits", PLAIN, [PLAIN], one.names):
            self.assertIs(one == value, False)
            self.assertIs(one != value, True)

    def test_no_shared_state(self):
        one, other = Bench(), Bench()
        one.put("a", PLAIN)
        self.assertEqual([len(one), len(other), "a" in other], [1, 0, False])

    def test_strings(self):
        bench = Bench()
        told_strings = [str(bench)]
        for name in ("a", "b"):
            bench.put(name, PAIR)
            told_strings.append(str(bench))
        bench.undo()
        told_strings.append(str(bench))
        self.assertEqual(told_strings, ["bench of 0 codes, 0 edits", "bench of 1 codes, 1 edits", "bench of 2 codes, 2 edits",
                                        "bench of 1 codes, 1 edits"])

    def test_not_iterated_over(self):
        bench = bench_of(a=PLAIN)
        for use in (iter, list, tuple, sorted):
            with self.assertRaises(TypeError):
                use(bench)
        with self.assertRaises(TypeError):
            use(PLAIN)

    def test_names_are_a_tuple_that_stays(self):
        bench = bench_of(b=PLAIN, a=EIGHT)
        names = bench.names
        bench.drop("a")
        self.assertEqual([names, bench.names], [("a", "b"), ("b",)])
        with self.assertRaises(AttributeError):
            bench.names = ()
        for value in ("c", "", None, True, 0, 1.5, ("b",), ["b"], {"b": 1}, {"b"}, PLAIN, bench, b"b", 10 ** 5000):
            self.assertIs(value in bench, False)


class Untrue(unittest.TestCase):
    """[21.4]"""

    def test_an_edit_need_not_end_answers(self):
        bench = bench_of(a=PLAIN, b=EIGHT)
        bench.ask("a", "b")
        bench.turn("a", (7, 1, 2, 3, 4, 5, 6, 0))
        self.assertEqual(bench.known("a", "b"), ("unlike",))

    def test_of_one_and_another_but_not_the_other_way_round(self):
        bench = bench_of(a=PLAIN, b=EIGHT)
        bench.ask("a", "b")
        self.assertIsNone(bench.known("b", "a"))

    def test_a_step_and_an_exchange_in_either_sequence(self):
        bench = bench_of(a=PLAIN, b=PLAIN)
        exchange = (0, 2, 1, 3, 4, 5, 6, 7)
        bench.step("a", 85)
        bench.turn("a", exchange)
        bench.turn("b", exchange)
        bench.step("b", 85)
        self.assertEqual(bench.ask("a", "b"), ("unlike",))

    def test_a_name_with_another_code_keeps_its_answers(self):
        bench = bench_of(a=PLAIN, b=EIGHT)
        bench.ask("a", "b")
        bench.put("a", TURNED)
        self.assertEqual(bench.known("a", "b"), ("unlike",))


if __name__ == "__main__":
    unittest.main()
