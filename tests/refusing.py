"""What tests of refusals have in common."""
import unittest

from things import copied


class Refusing(unittest.TestCase):
    def assert_refuses(self, error, asked, *handed):
        """The question is refused with just this class, and what is handed in stays as it was."""
        before = copied(handed)
        with self.subTest(repr((asked.__name__,) + handed)[:100]):
            with self.assertRaises(error) as caught:
                asked(*handed)
            self.assertIs(type(caught.exception), error)
            self.assertEqual(handed, before)
