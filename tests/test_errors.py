"""The errors: fields, base classes, and that none is under another but as the interface says."""

import unittest

from latewords import errors
from tests.values import strange_values

FIELDS = {
    "BadSetting": "name", "BadWrite": "index", "BadOrder": "index", "NotPossible": "event", "TooLong": "many",
    "BadTalk": "index", "EndlessTurn": "endpoint", "BadPath": "index", "BadText": "line", "BadRow": "column",
    "NoTurn": "turn", "NoArc": "arc", "NoName": "name",
}
UNDER_BASE = ("BadSetting", "BadWrite", "BadOrder", "NotPossible", "TooLong", "BadTalk", "EndlessTurn", "BadPath",
              "BadText", "BadRow")
PARENTS = {name: errors.LatewordsError for name in UNDER_BASE}
PARENTS.update({
    "LatewordsError": ValueError, "NoTurn": IndexError, "NoArc": LookupError, "NoName": KeyError,
    "NothingDone": RuntimeError,
})
OF_PYTHON = (ValueError, IndexError, LookupError, KeyError, RuntimeError, TypeError, ArithmeticError, AttributeError,
             StopIteration, OSError, NameError, AssertionError, NotImplementedError, UnicodeError, RecursionError)


class ErrorsTest(unittest.TestCase):
    def test_each_error_keeps_its_field_by_position_and_by_name(self):
        for name, field in FIELDS.items():
            for value in strange_values():
                with self.subTest(name=name, value=value):
                    kind = getattr(errors, name)
                    self.assertIs(getattr(kind(value), field), value)
                    self.assertIs(getattr(kind(**{field: value}), field), value)
                    with self.assertRaises(kind) as caught:
                        raise kind(value)
                    self.assertIs(getattr(caught.exception, field), value)

    def test_the_field_is_the_only_argument(self):
        for name, field in FIELDS.items():
            with self.subTest(name=name):
                kind = getattr(errors, name)
                with self.assertRaises(TypeError):
                    kind()
                with self.assertRaises(TypeError):
                    kind(1, 2)
                with self.assertRaises(TypeError):
                    kind(**{field + "s": 1})

    def test_nothing_done_has_no_field(self):
        with self.assertRaises(errors.NothingDone) as caught:
            raise errors.NothingDone()
        self.assertEqual(vars(caught.exception), {})

    def test_each_error_stands_right_under_its_parent(self):
        for name, parent in PARENTS.items():
            with self.subTest(name=name):
                self.assertEqual(getattr(errors, name).__bases__, (parent,))

    def test_an_error_is_no_other_error_but_as_said(self):
        for name in PARENTS:
            for other in PARENTS:
                with self.subTest(name=name, other=other):
                    said = name == other or (other == "LatewordsError" and name in UNDER_BASE)
                    self.assertEqual(issubclass(getattr(errors, name), getattr(errors, other)), said)

    def test_which_of_pythons_errors_an_error_is(self):
        for name, parent in PARENTS.items():
            for other in OF_PYTHON:
                with self.subTest(name=name, other=other):
                    self.assertEqual(issubclass(getattr(errors, name), other), issubclass(parent, other))

    def test_pythons_errors_as_they_are_listed(self):
        self.assertTrue(issubclass(errors.TooLong, ValueError))
        self.assertFalse(issubclass(errors.NoTurn, (ValueError, KeyError)))
        self.assertFalse(issubclass(errors.NoArc, (ValueError, KeyError, IndexError)))
        self.assertFalse(issubclass(errors.NoName, (ValueError, IndexError)))
        self.assertFalse(issubclass(errors.NothingDone, (ValueError, LookupError)))


if __name__ == "__main__":
    unittest.main()
