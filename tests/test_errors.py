import unittest

from notejar import errors

NAMES = ["NoName", "NoTable", "NoPath", "NoAsk", "NoNote", "NoJar", "NoNumber", "NoText", "NoStep"]


class Errors(unittest.TestCase):
    def test_jar_error_stands_under_value_error(self):
        self.assertEqual(errors.JarError.__bases__, (ValueError,))

    def test_each_refusal_stands_under_jar_error(self):
        for name in NAMES:
            self.assertTrue(issubclass(getattr(errors, name), errors.JarError), name)

    def test_none_stands_under_another(self):
        for one in NAMES:
            for other in NAMES:
                if one != other:
                    self.assertFalse(issubclass(getattr(errors, one), getattr(errors, other)), (one, other))

    def test_a_refusal_can_be_taken_as_any_of_its_classes(self):
        for name in NAMES:
            for taken in (getattr(errors, name), errors.JarError, ValueError):
                with self.assertRaises(taken):
                    raise getattr(errors, name)("words")


if __name__ == "__main__":
    unittest.main()
