"""[2], [22]: the errors."""

import unittest

from layernets import errors
from layernets.errors import FlowError
from tests.support import Case

# The values that each error class takes, in their order.
ERRORS = {
    "BadLine": ("number",),
    "BadPart": ("place",),
    "BadText": ("piece",),
    "Known": ("name",),
    "NoChannel": ("name",),
    "NoFit": (),
    "NoNet": ("name",),
    "NoNumber": ("number",),
    "NoOutlet": ("name",),
    "NoPlace": ("number",),
    "NothingDone": (),
    "OtherOutlets": (),
}
VALUES = {"number": 17, "place": 3, "piece": 0, "name": "ditch"}


class ErrorsTest(Case):

    def test_flow_error_is_a_value_error(self):
        self.assertEqual(FlowError.__bases__, (ValueError,))
        self.assertEqual(FlowError.__module__, "layernets.errors")

    def test_each_error_stands_directly_under_flow_error(self):
        for word in ERRORS:
            with self.subTest(word):
                self.assertEqual(getattr(errors, word).__bases__, (FlowError,))
                self.assertEqual(getattr(errors, word).__module__, "layernets.errors")
                self.assertEqual(getattr(errors, word).__name__, word)

    def test_values_by_position(self):
        for word, names in ERRORS.items():
            with self.subTest(word):
                error = getattr(errors, word)(*[VALUES[name] for name in names])
                for name in names:
                    self.same(getattr(error, name), VALUES[name])

    def test_values_by_name(self):
        for word, names in ERRORS.items():
            with self.subTest(word):
                error = getattr(errors, word)(**{name: VALUES[name] for name in names})
                for name in names:
                    self.same(getattr(error, name), VALUES[name])

    def test_each_error_is_caught_as_a_flow_error_and_as_a_value_error(self):
        for word, names in ERRORS.items():
            for kind in (FlowError, ValueError):
                with self.subTest(word=word, kind=kind):
                    with self.assertRaises(kind):
                        raise getattr(errors, word)(*[VALUES[name] for name in names])

    def test_no_error_is_caught_as_another_one(self):
        for word, names in ERRORS.items():
            error = getattr(errors, word)(*[VALUES[name] for name in names])
            for other in ERRORS:
                with self.subTest(word=word, other=other):
                    self.assertEqual(isinstance(error, getattr(errors, other)), word == other)


if __name__ == "__main__":
    unittest.main()
