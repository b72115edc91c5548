"""The refusals: each under PactError alone."""

import unittest

from losspact.errors import NoRoad, NoText, PactError, TooMany

REFUSALS = (NoText, NoRoad, TooMany)


class ErrorsTest(unittest.TestCase):
    def test_pact_error_stands_under_value_error(self):
        self.assertEqual(PactError.__bases__, (ValueError,))

    def test_each_refusal_stands_under_pact_error_alone(self):
        for refusal in REFUSALS:
            with self.subTest(refusal=refusal.__name__):
                self.assertEqual(refusal.__bases__, (PactError,))
                self.assertTrue(issubclass(refusal, ValueError))

    def test_no_refusal_stands_under_another(self):
        for one in REFUSALS:
            for other in REFUSALS:
                with self.subTest(one=one.__name__, other=other.__name__):
                    self.assertEqual(issubclass(one, other), one == other)

    def test_each_is_taken_as_pact_error_and_as_value_error(self):
        for refusal in REFUSALS:
            for taken in (refusal, PactError, ValueError):
                with self.subTest(refusal=refusal.__name__, taken=taken.__name__):
                    with self.assertRaises(taken):
                        raise refusal("refused")

    def test_names(self):
        self.assertEqual([refusal.__name__ for refusal in REFUSALS], ["NoText", "NoRoad", "TooMany"])
        self.assertEqual(PactError.__name__, "PactError")


if __name__ == "__main__":
    unittest.main()
