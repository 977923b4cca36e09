"""Promise 5: the errors."""

import unittest

from stillfound import errors

FIELDLESS = [
    "NoWeb", "NoStanding", "NoRow", "NoShape", "NoNumber", "NoRules", "NoPerson", "NoLetter",
    "NoDeed", "Full", "NothingDone", "NoNote", "NoNotes", "Held", "NoCard", "NoText",
]
FIELDS = {"NotLet": "index", "BadRule": "part", "TooMany": "most", "BadText": "line"}


def deep(depth):
    """A thing of lists, tuples and dicts, nested so deep."""
    thing = 7
    for k in range(depth):
        thing = [[thing], (thing,), {"a": thing}][k % 3]
    return thing


def kept_things():
    """Values that a field may be given."""
    return [
        True, False, None, 0, 1, -1, 5000, 10 ** 999, -(10 ** 999), "", "most", "rows", "a\n\tb~",
        (), (0, 1), (None, True), [], [1, [2]], {}, {"a": [1]}, {(0, 1): ((), ())}, deep(30),
        [0] * 90000, errors.NoWeb(), errors.NotLet(3),
    ]


class ErrorsTest(unittest.TestCase):
    def test_card_error(self):
        self.assertEqual(errors.CardError.__bases__, (ValueError,))
        self.assertIsInstance(errors.CardError(), ValueError)

    def test_made_without_arguments(self):
        for name in FIELDLESS:
            with self.subTest(name):
                made = getattr(errors, name)()
                self.assertIsInstance(made, errors.CardError)
                self.assertIsInstance(made, ValueError)
                self.assertIsInstance(str(made), str)

    def test_made_with_the_field(self):
        for name, field in FIELDS.items():
            for thing in kept_things():
                with self.subTest(name):
                    made = getattr(errors, name)(thing)
                    self.assertIsInstance(made, errors.CardError)
                    self.assertIsInstance(made, ValueError)
                    self.assertIs(getattr(made, field), thing)
                    self.assertIsInstance(str(made), str)
                    self.assertIsInstance(repr(made), str)

    def test_field_is_the_value_that_was_passed(self):
        part = [1]
        made = errors.BadRule(part)
        part.append(2)
        self.assertEqual(made.part, [1, 2])

    def test_field_is_set_on_each_object(self):
        for name, field in FIELDS.items():
            one, other = getattr(errors, name)(1), getattr(errors, name)(True)
            self.assertIs(getattr(one, field), 1)
            self.assertIs(getattr(other, field), True)
            with self.assertRaises(TypeError):
                getattr(errors, name)()

    def test_direct_subclasses_alone(self):
        for name in [*FIELDLESS, *FIELDS]:
            with self.subTest(name):
                self.assertEqual(getattr(errors, name).__bases__, (errors.CardError,))
                self.assertEqual(getattr(errors, name).__module__, "stillfound.errors")
                self.assertEqual(getattr(errors, name).__name__, name)

    def test_none_is_another_one(self):
        for name in [*FIELDLESS, *FIELDS]:
            made = getattr(errors, name)(*([0] if name in FIELDS else []))
            for other in [*FIELDLESS, *FIELDS]:
                with self.subTest(name, other=other):
                    self.assertEqual(isinstance(made, getattr(errors, other)), name == other)

    def test_raised_and_caught(self):
        for name in FIELDLESS:
            with self.assertRaises(errors.CardError):
                raise getattr(errors, name)()
        for name, field in FIELDS.items():
            with self.assertRaises(ValueError) as caught:
                raise getattr(errors, name)(4)
            self.assertEqual(getattr(caught.exception, field), 4)


if __name__ == "__main__":
    unittest.main()
