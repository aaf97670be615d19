"""The four limits and the classes of errors."""

import unittest

from halverules import errors, limits
from halverules.halved import number

FIELDS = {
    "InvalidNumber": "number", "InvalidName": "name", "InvalidRule": "index", "NotFitting": "index",
    "InvalidValues": "index", "InvalidDeeds": "index", "InvalidText": "text", "InvalidCommand": "command",
    "NotAFunction": "value", "UnknownName": "name", "Refused": "index", "Parted": "number", "Busy": None,
    "NothingToUndo": None, "NoMember": "index", "TooMany": None, "TooManyStates": None,
}
FAMILIES = {
    "InputError": (ValueError, (
        "InvalidNumber", "InvalidName", "InvalidRule", "NotFitting", "InvalidValues", "InvalidDeeds", "InvalidText",
        "InvalidCommand", "NotAFunction")),
    "StateError": (LookupError, ("UnknownName", "Refused", "Parted", "Busy", "NothingToUndo", "NoMember")),
    "LimitError": (ArithmeticError, ("TooMany", "TooManyStates")),
}


def deep(levels):
    """A tuple that is nested so deep."""
    value = ()
    for _ in range(levels):
        value = (value,)
    return value


VALUES = [
    None, True, False, 0, 1, -1, 10 ** 319, -10 ** 319, "", "text", b"", b"bytes", (), (1, 2), deep(70), [], [1, [2]],
    {}, {"a": 1}, {1, 2}, frozenset(), object(), int, len, slice(1, 2), Ellipsis, ValueError("x"), "a" * 100000,
    list(range(100000)), number(), range(3), NotImplemented,
]


class LimitsTest(unittest.TestCase):
    def test_values(self):
        self.assertEqual(
            (limits.RANK, limits.STATES, limits.LARGEST, limits.TOGETHER), (16, 1024, 10 ** 300, 64))
        for worth in (limits.RANK, limits.STATES, limits.LARGEST, limits.TOGETHER):
            self.assertIs(type(worth), int)


class ErrorsTest(unittest.TestCase):
    def test_field_by_place_and_by_name(self):
        for name, field in FIELDS.items():
            if field is None:
                continue
            made = getattr(errors, name)
            for value in VALUES:
                self.assertIs(getattr(made(value), field), value)
                self.assertIs(getattr(made(**{field: value}), field), value)
                self.assertIsInstance(str(made(value)), str)

    def test_a_field_is_its_own(self):
        first, second = errors.InvalidNumber(1), errors.InvalidNumber(2)
        self.assertEqual((first.number, second.number), (1, 2))

    def test_missing_and_further_arguments(self):
        for name, field in FIELDS.items():
            made = getattr(errors, name)
            if field is not None:
                with self.assertRaises(TypeError):
                    made()
                with self.assertRaises(TypeError):
                    made(1, 2)
                with self.assertRaises(TypeError):
                    made(other=1)

    def test_without_field(self):
        for name, field in FIELDS.items():
            if field is None:
                error = getattr(errors, name)()
                self.assertEqual(vars(error), {})

    def test_raised_and_caught(self):
        for base, (python, names) in FAMILIES.items():
            for name in names:
                made = getattr(errors, name)
                error = made() if FIELDS[name] is None else made(7)
                for caught in (made, getattr(errors, base), python):
                    with self.assertRaises(caught) as held:
                        raise error
                    self.assertIs(held.exception, error)

    def test_belongs_to_its_classes_and_to_no_other(self):
        own = {name for name in vars(errors) if isinstance(getattr(errors, name), type)}
        self.assertEqual(own, set(FIELDS) | set(FAMILIES))
        pythons = (ValueError, LookupError, ArithmeticError, KeyError, IndexError, TypeError, RuntimeError, OSError)
        for base, (python, names) in FAMILIES.items():
            self.assertEqual(getattr(errors, base).__bases__, (python,))
            for name in names:
                made = getattr(errors, name)
                error = made() if FIELDS[name] is None else made(7)
                self.assertIs(type(error), made)
                self.assertEqual({other for other in own if isinstance(error, getattr(errors, other))}, {name, base})
                self.assertEqual([other for other in pythons if isinstance(error, other)], [python])


if __name__ == "__main__":
    unittest.main()
