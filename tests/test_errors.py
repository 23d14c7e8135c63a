import unittest

from tellsum import errors

NAMES = ("BadTelling", "NoFit", "NoNumber", "NoPlace", "NotTwos", "NoPast", "NoText", "NoRow", "Unlike")


class Refusals(unittest.TestCase):
    def test_sum_error_is_beneath_value_error(self):
        self.assertEqual(errors.SumError.__bases__, (ValueError,))

    def test_each_is_straight_beneath_sum_error(self):
        for name in NAMES:
            with self.subTest(name=name):
                self.assertEqual(getattr(errors, name).__bases__, (errors.SumError,))
                self.assertEqual(getattr(errors, name).__name__, name)

    def test_none_is_beneath_another(self):
        classes = [getattr(errors, name) for name in NAMES]
        for one in classes:
            for other in classes:
                self.assertEqual(issubclass(one, other), one is other)

    def test_each_is_made_of_a_text(self):
        for name in NAMES + ("SumError",):
            with self.subTest(name=name):
                made = getattr(errors, name)("why it is refused")
                self.assertEqual(str(made), "why it is refused")
                with self.assertRaises(ValueError):
                    raise made


if __name__ == "__main__":
    unittest.main()
