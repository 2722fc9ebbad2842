"""The errors of the whole program."""

import unittest

from rootshared import errors

OF_ROOT = ("InvalidWeb", "InvalidPool", "InvalidGroup", "InvalidWord", "InvalidProgram", "InvalidInputs",
           "InvalidName", "InvalidOperation", "ParseError")

KEPT = (("ParseError", errors.RootError, "at"), ("InvalidNumber", IndexError, "given"),
        ("UnknownName", KeyError, "wanted"), ("NothingToUndo", LookupError, "many"),
        ("TooMany", OverflowError, "limit"), ("Refused", ArithmeticError, "claim"))


class Errors(unittest.TestCase):
    def test_root_error_derives_from_value_error(self):
        self.assertEqual(errors.RootError.__bases__, (ValueError,))

    def test_errors_that_derive_directly_from_root_error(self):
        for name in OF_ROOT:
            self.assertEqual(getattr(errors, name).__bases__, (errors.RootError,), name)

    def test_errors_that_keep_what_they_are_made_with(self):
        for name, base, attribute in KEPT:
            made = getattr(errors, name)
            self.assertEqual(made.__bases__, (base,), name)
            for value in (None, 0, True, 10 ** 99, "abc", (1, (2,)), [1, [2]], {"a": []}):
                with self.assertRaises(made) as caught:
                    raise made(value)
                self.assertIs(getattr(caught.exception, attribute), value, name)

    def test_the_others_are_made_with_a_message(self):
        for name in ("RootError",) + OF_ROOT[:-1]:
            with self.assertRaises(getattr(errors, name)) as caught:
                raise getattr(errors, name)("that was wrong")
            self.assertEqual(str(caught.exception), "that was wrong")

    def test_errors_are_defined_in_their_module(self):
        for name in ("RootError",) + OF_ROOT + tuple(row[0] for row in KEPT):
            self.assertEqual(getattr(errors, name).__module__, "rootshared.errors")
            self.assertEqual(getattr(errors, name).__name__, name)

    def test_an_error_of_one_kind_is_not_taken_for_another(self):
        made = [errors.RootError("why")] + [getattr(errors, name)("why") for name in OF_ROOT]
        made.extend(getattr(errors, row[0])("why") for row in KEPT[1:])
        for one in made[1:]:
            for other in made[1:]:
                self.assertEqual(isinstance(one, other.__class__), one is other)


if __name__ == "__main__":
    unittest.main()
