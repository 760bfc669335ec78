"""Points 100 and 101: the error classes of the interface."""

import unittest

from kinkmeasure import errors
from kinkmeasure.errors import KinkError

PLAIN = ["ByZero", "BadRatio", "BadPoint", "BadJoin", "BadSystem", "BadRegion", "BadClaim",
         "BadPaper", "BadVector", "BadScale", "BadCount", "BadMeasure"]
WITH_ONE = {"BadText": "row", "BadJob": "row", "BadStep": "place", "BadCode": "place",
            "BadLoop": "reason"}


class ErrorTest(unittest.TestCase):
    def test_base(self):
        self.assertEqual(KinkError.__bases__, (ValueError,))

    def test_direct_subclasses(self):
        for name in PLAIN + list(WITH_ONE) + ["BadNetwork"]:
            self.assertEqual(getattr(errors, name).__bases__, (KinkError,), name)

    def test_all_defined_here(self):
        for name in PLAIN + list(WITH_ONE) + ["BadNetwork", "KinkError"]:
            self.assertEqual(getattr(errors, name).__module__, "kinkmeasure.errors")

    def test_without_arguments(self):
        for name in PLAIN:
            with self.assertRaises(ValueError) as caught:
                raise getattr(errors, name)()
            self.assertIsInstance(caught.exception, KinkError)

    def test_network(self):
        error = errors.BadNetwork(3, "size")
        self.assertEqual((error.layer, error.reason), (3, "size"))
        error = errors.BadNetwork(layer=-1, reason="form")
        self.assertEqual((error.layer, error.reason), (-1, "form"))

    def test_with_one_argument(self):
        for name, attribute in WITH_ONE.items():
            self.assertEqual(getattr(getattr(errors, name)(7), attribute), 7)
            self.assertEqual(getattr(getattr(errors, name)(**{attribute: 8}), attribute), 8)

    def test_each_object_has_its_own(self):
        one, other = errors.BadText(1), errors.BadText(2)
        self.assertEqual((one.row, other.row), (1, 2))


if __name__ == "__main__":
    unittest.main()
