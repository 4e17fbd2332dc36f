"""Values that are wrong for each kind of parameter, and what holds of each call that is passed some of them."""

import itertools

from ownchecks.code.codes import Code
from ownchecks.errors import InvalidCode, InvalidNumber, InvalidOperation, InvalidWord, Refused
from ownchecks.errors import TooMany, UnknownName

CODE = Code(4, (3, 12))
NO_INTEGERS = (True, False, None, "", "1", "11", (), (1,), [], [1], {}, {1: 1}, ((1,),), CODE)
OUT_OF_RANGE = (-1, -2, -10 ** 59, 10 ** 59, 10 ** 60, -10 ** 60, 10 ** 99, 25 ** 40)
LENGTHS = NO_INTEGERS + OUT_OF_RANGE + (0, 25, 26)
WORDS_OF_4 = NO_INTEGERS + OUT_OF_RANGE + (16, 17, 31, 2 ** 24)
WORDS_OF_24 = NO_INTEGERS + OUT_OF_RANGE + (2 ** 24, 2 ** 24 + 1)
TUPLES_OF_4 = (True, False, None, "", "12", 0, 3, -1, 10 ** 60, [], [3], [3, 12], {}, {3: 12}, CODE,
               (0,) * 65, (3, 12) * 40, (16,), (3, 16), (16, 3), (3, 12, -1), (3, True), (False,), (3, None),
               ("3",), ((3,),), ([3],), (3, (12,)), (10 ** 60,), (3, 10 ** 99), (2 ** 24,), (CODE,), (0,) * 63 + (16,))
PLACES = (True, None, "", "01", 0, 3, 10 ** 60, [], [0], [0, 1], {}, {0: 1}, CODE, (1, 0), (0, 0), (0, 1, 1),
          (2, 3, 1), (-1,), (-1, 0), (True,), (0, True), (False, 1), (None,), ("0",), (0, "1"), ((0,),), ([0],),
          (10 ** 60,), (0, 10 ** 99), (0, CODE))
LOTS_OF_4 = PLACES + ((), (4,), (0, 4), (0, 1, 2, 3, 4), (3, 23))
NO_CODES = (True, None, 0, 3, 10 ** 60, "", "code of length 4, dimension 2", (), (3, 12), (4, (3, 12)), [CODE], (CODE,),
            {4: (3, 12)})
NUMBERS = NO_INTEGERS + OUT_OF_RANGE + (25, 26)

LENGTH = (4, LENGTHS, InvalidNumber)
WORD = (6, WORDS_OF_4, InvalidWord)
WORDS = ((3, 12), TUPLES_OF_4, InvalidWord)
LONG_WORD = (6, WORDS_OF_24, InvalidWord)
ONE_CODE = (CODE, NO_CODES, InvalidCode)
LOT = ((0, 2), LOTS_OF_4, InvalidOperation)
NUMBER = (5, NUMBERS, InvalidNumber)
# a judged value is never refused
VALUE = (("parts", ()), (), None)

JUDGED = (None, True, False, 0, -1, 1, 5000 * (1,), 10 ** 60, 10 ** 5000, -10 ** 5000, "", "own", "parts", (), ((),),
          [], [[]], {}, {"parts": ()}, ("parts",), ("check",), ("odd",), ("outside",), ("odd", None, None),
          ("outside", None), ("parts", None), ("check", None), (None,), (None, None), (None, None, None),
          (CODE,), CODE, ("check", CODE), ("odd", CODE, CODE), ((((((((1,),),),),),),),), [[[[[[[[1]]]]]]]])


class Refusals:
    """A test case with CALLS: for each call a tuple of the kinds of its parameters.

    A kind is a right value, a tuple of wrong ones, and the error with which these are refused.
    """

    def refused(self, call, arguments, error, given):
        with self.assertRaises(error) as caught:
            call(*arguments)
        self.assertIs(type(caught.exception), error, (call.__name__, arguments))
        if error is InvalidNumber:
            self.assertIs(caught.exception.given, given)
        if error is UnknownName:
            self.assertIs(caught.exception.wanted, given)

    def too_many(self, call, arguments, limit):
        with self.assertRaises(TooMany) as caught:
            call(*arguments)
        self.assertIs(type(caught.exception), TooMany)
        self.assertEqual(caught.exception.limit, limit)

    def refused_for(self, call, arguments, reason):
        with self.assertRaises(Refused) as caught:
            call(*arguments)
        self.assertIs(type(caught.exception), Refused)
        self.assertEqual(caught.exception.reason, reason)
        self.assertIs(type(caught.exception.reason), tuple)

    def test_the_right_ones_are_taken(self):
        for call, kinds in self.CALLS.items():
            arguments = [right for right, _, _ in kinds]
            self.assertEqual(call(*arguments), call(*arguments))

    def test_one_is_wrong(self):
        for call, kinds in self.CALLS.items():
            for at, (_, wrong, error) in enumerate(kinds):
                for value in wrong:
                    arguments = [right for right, _, _ in kinds]
                    arguments[at] = value
                    self.refused(call, arguments, error, value)

    def test_of_two_wrong_ones_the_first_one_is_told(self):
        for call, kinds in self.CALLS.items():
            for (at, (_, wrong, error)), (then, (_, others, _)) in itertools.combinations(enumerate(kinds), 2):
                for value, other in itertools.product(wrong, others):
                    arguments = [right for right, _, _ in kinds]
                    arguments[at], arguments[then] = value, other
                    self.refused(call, arguments, error, value)

    def test_a_wrong_one_beside_any_judged_value(self):
        for call, kinds in self.CALLS.items():
            if kinds[-1] is VALUE:
                for (at, (_, wrong, error)), judged in itertools.product(enumerate(kinds[:-1]), JUDGED):
                    for value in wrong[:6]:
                        arguments = [right for right, _, _ in kinds[:-1]] + [judged]
                        arguments[at] = value
                        self.refused(call, arguments, error, value)
