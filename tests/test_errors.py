import unittest

from rightfares.errors import RightfaresError


class TestRightfaresError(unittest.TestCase):
    def test_is_a_value_error(self):
        self.assertTrue(issubclass(RightfaresError, ValueError))

    def test_has_its_reason(self):
        for reason in ["no scheme", "no alignment", ""]:
            error = RightfaresError(reason)
            self.assertEqual(error.reason, reason)
            self.assertEqual(str(error), reason)
        self.assertEqual(RightfaresError(reason="x").reason, "x")

    def test_can_be_raised_and_caught(self):
        with self.assertRaises(ValueError) as caught:
            raise RightfaresError("different sequences")
        self.assertEqual(caught.exception.reason, "different sequences")


if __name__ == "__main__":
    unittest.main()
