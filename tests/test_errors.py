import unittest

from touchtree import errors

NAMES = ("NoBox", "Taken", "TooMany", "NoNumber", "NoText")


class ErrorsTest(unittest.TestCase):
    def test_any_refusal_is_a_value_error(self):
        self.assertTrue(issubclass(errors.TouchError, ValueError))
        self.assertEqual(errors.TouchError.__bases__, (ValueError,))

    def test_each_refusal_stands_below_touch_error(self):
        for name in NAMES:
            with self.subTest(name):
                refusal = getattr(errors, name)
                self.assertTrue(issubclass(refusal, errors.TouchError))
                self.assertNotEqual(refusal, errors.TouchError)

    def test_none_stands_below_another(self):
        for name in NAMES:
            for other in NAMES:
                if name != other:
                    with self.subTest(name=name, other=other):
                        self.assertFalse(issubclass(getattr(errors, name), getattr(errors, other)))


if __name__ == "__main__":
    unittest.main()
