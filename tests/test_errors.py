"""[0.21]: the errors, what each is derived from, and what it keeps."""

import unittest

from ownchecks import errors
from ownchecks.code.codes import Code

MESSAGES = ("InvalidWord", "InvalidCode", "InvalidOperation", "InvalidCounts", "InvalidText", "InvalidClaim")
KEEPING = (("ParseError", "spot", errors.CheckError), ("InvalidNumber", "given", IndexError),
           ("UnknownName", "wanted", KeyError), ("TooMany", "limit", OverflowError),
           ("NothingToUndo", "done", LookupError), ("Refused", "reason", ArithmeticError))
ANY = (0, -1, 12, 10 ** 99, True, None, "", "word", ("alike", 0, 2), [1, (2, [3])], {"a": 1}, Code(2, (3,)))


class Derived(unittest.TestCase):
    def test_check_error(self):
        self.assertEqual(errors.CheckError.__bases__, (ValueError,))

    def test_directly_derived_from_check_error(self):
        for name in MESSAGES:
            self.assertEqual(getattr(errors, name).__bases__, (errors.CheckError,), name)

    def test_directly_derived_from_their_own(self):
        for name, _, base in KEEPING:
            self.assertEqual(getattr(errors, name).__bases__, (base,), name)

    def test_only_check_errors_are_value_errors(self):
        for name in ("InvalidNumber", "UnknownName", "TooMany", "NothingToUndo", "Refused"):
            self.assertFalse(issubclass(getattr(errors, name), ValueError), name)

    def test_all_errors_and_no_others(self):
        found = [name for name, value in vars(errors).items() if isinstance(value, type)]
        expected = ["CheckError", *MESSAGES, *[name for name, _, _ in KEEPING]]
        self.assertEqual(sorted(found), sorted(expected))
        for name in expected:
            self.assertEqual(getattr(errors, name).__module__, "ownchecks.errors")


class Kept(unittest.TestCase):
    def test_what_is_taken_is_kept(self):
        for name, attribute, base in KEEPING:
            for value in ANY:
                error = getattr(errors, name)(value)
                self.assertIs(getattr(error, attribute), value)
                with self.assertRaises(base) as caught:
                    raise error
                self.assertIs(getattr(caught.exception, attribute), value)

    def test_each_needs_what_it_keeps(self):
        for name, _, _ in KEEPING:
            for values in ((), (1, 2)):
                with self.assertRaises(TypeError):
                    getattr(errors, name)(*values)

    def test_nothing_else_is_kept(self):
        for name, attribute, _ in KEEPING:
            self.assertEqual(list(vars(getattr(errors, name)(3))), [attribute])

    def test_messages(self):
        for name in ("CheckError", *MESSAGES):
            error = getattr(errors, name)("what went wrong")
            self.assertEqual(str(error), "what went wrong")
            with self.assertRaises(errors.CheckError):
                raise error


if __name__ == "__main__":
    unittest.main()
