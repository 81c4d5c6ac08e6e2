"""Point 2 and the interface: the error classes."""

import unittest

from errorspans import errors
from helpers import ODD_VALUES

ATTRIBUTES = {
    "BadGrammar": "field", "NoBlock": "name", "NotPrefix": "place", "NoSolution": "number", "NoError": "number",
    "UnknownToken": "token", "Finished": None, "BadText": "value", "BadRange": "value", "NotAFix": "value",
    "NothingToUndo": None, "NothingToRedo": None, "Busy": None, "NotPlain": "piece", "UnlikeBlocks": None,
    "BadSource": "row", "BadLine": "line",
}


class ErrorsTest(unittest.TestCase):

    def test_there_are_seventeen_and_the_base(self):
        self.assertEqual(len(ATTRIBUTES), 17)
        self.assertEqual(errors.SpanError.__bases__, (ValueError,))
        found = [name for name, value in vars(errors).items() if isinstance(value, type)]
        self.assertEqual(sorted(found), sorted(["SpanError", *ATTRIBUTES]))

    def test_each_stands_directly_under_the_base_and_is_no_other(self):
        for name in ATTRIBUTES:
            kind = getattr(errors, name)
            self.assertEqual(kind.__bases__, (errors.SpanError,), name)
            for other in ATTRIBUTES:
                self.assertEqual(issubclass(kind, getattr(errors, other)), name == other)

    def test_with_any_value_by_position_and_by_name(self):
        for name, attribute in ATTRIBUTES.items():
            if attribute is None:
                continue
            kind = getattr(errors, name)
            for value in [*ODD_VALUES, "item", (0, 1), object(), 1.5, 10 ** 6000]:
                for made in (kind(value), kind(**{attribute: value})):
                    self.assertIs(getattr(made, attribute), value)
                    self.assertEqual(vars(made), {attribute: value})

    def test_a_value_is_needed_where_one_is_listed(self):
        for name, attribute in ATTRIBUTES.items():
            if attribute is not None:
                with self.assertRaises(TypeError):
                    getattr(errors, name)()

    def test_without_values(self):
        for name, attribute in ATTRIBUTES.items():
            if attribute is None:
                made = getattr(errors, name)()
                self.assertEqual(vars(made), {})
                self.assertIsInstance(made, errors.SpanError)

    def test_raised_and_caught_by_the_base_and_as_value_error(self):
        for base in (errors.SpanError, ValueError):
            with self.assertRaises(base) as caught:
                raise errors.BadRange((0, 1))
            self.assertEqual(caught.exception.value, (0, 1))


if __name__ == "__main__":
    unittest.main()
