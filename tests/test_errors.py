import unittest

from latestof import errors

MESSAGE_ERRORS = (
    "InvalidRules", "InvalidTimes", "InvalidBounds", "InvalidExpression", "InvalidClause", "InvalidPlan", "ParseError",
)
VALUE_ERRORS = (
    ("UnknownVariable", "variable", IndexError), ("UnknownEvent", "name", KeyError),
    ("InvalidNumber", "value", LookupError), ("TooLarge", "limit", OverflowError),
    ("Refuted", "reason", ArithmeticError), ("NothingToUndo", "count", RuntimeError),
)
VALUES = (0, -7, 10 ** 59, 10 ** 9000, True, None, "A", b"\xff", (), ((0, 0, 0),), [1, [2]], {"a": {}})


class MessageErrors(unittest.TestCase):
    def test_timing_error_is_derived_from_value_error(self):
        self.assertEqual(errors.TimingError.__bases__, (ValueError,))
        self.assertEqual(str(errors.TimingError("why")), "why")

    def test_others_are_derived_directly_from_it(self):
        for name in MESSAGE_ERRORS:
            with self.subTest(name):
                kind = getattr(errors, name)
                self.assertEqual(kind.__bases__, (errors.TimingError,))
                self.assertEqual(kind.__module__, "latestof.errors")
                self.assertEqual(str(kind("some words")), "some words")


class ValueErrors(unittest.TestCase):
    def test_bases(self):
        for name, _, base in VALUE_ERRORS:
            with self.subTest(name):
                kind = getattr(errors, name)
                self.assertEqual(kind.__bases__, (base,))
                self.assertFalse(issubclass(kind, errors.TimingError))
                self.assertEqual(kind.__module__, "latestof.errors")

    def test_value_is_kept_as_it_is(self):
        for name, attribute, _ in VALUE_ERRORS:
            for value in VALUES:
                with self.subTest(name):
                    kind = getattr(errors, name)
                    self.assertIs(getattr(kind(value), attribute), value)
                    self.assertIs(getattr(kind(**{attribute: value}), attribute), value)

    def test_message_can_be_shown_for_every_value(self):
        for name, _, _ in VALUE_ERRORS:
            for value in VALUES:
                with self.subTest(name):
                    self.assertTrue(str(getattr(errors, name)(value)))

    def test_exactly_one_value_is_taken(self):
        for name, _, _ in VALUE_ERRORS:
            with self.subTest(name):
                self.assertRaises(TypeError, getattr(errors, name))
                self.assertRaises(TypeError, getattr(errors, name), 1, 2)

    def test_each_is_caught_as_its_own_class_only(self):
        for name, _, _ in VALUE_ERRORS:
            for other, _, _ in VALUE_ERRORS:
                with self.subTest(name, other=other):
                    related = issubclass(getattr(errors, name), getattr(errors, other))
                    self.assertEqual(related, name == other)


if __name__ == "__main__":
    unittest.main()
