import unittest

from evenwebs import errors

NAMES = (
    "NoWeb", "NoText", "NoNumbers", "NoField", "NoThing", "NoSquare",
    "NoPlaces", "TooMany", "NoName", "NoDeed", "NoRow",
)


class Errors(unittest.TestCase):
    def test_any_refusal_is_a_value_error(self):
        self.assertEqual(errors.WebError.__bases__, (ValueError,))

    def test_each_stands_straight_under_web_error(self):
        for name in NAMES:
            with self.subTest(name):
                self.assertEqual(getattr(errors, name).__bases__, (errors.WebError,))

    def test_each_is_a_class_of_its_own(self):
        self.assertEqual(len({getattr(errors, name) for name in NAMES}), 11)

    def test_each_bears_its_name(self):
        for name in NAMES + ("WebError",):
            with self.subTest(name):
                self.assertEqual(getattr(errors, name).__name__, name)

    def test_each_is_raised_with_words(self):
        for name in NAMES:
            with self.subTest(name):
                with self.assertRaises(errors.WebError) as caught:
                    raise getattr(errors, name)("some words")
                self.assertEqual(str(caught.exception), "some words")
