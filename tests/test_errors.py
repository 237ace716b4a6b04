import unittest

from fewopen import errors

NAMES = ["NoNumber", "NoRule", "TooMany", "TooFew", "NoFit", "NoText", "NoRow", "NoName"]


class Errors(unittest.TestCase):
    def test_open_error_is_a_value_error(self):
        self.assertEqual(errors.OpenError.__bases__, (ValueError,))

    def test_each_stands_straight_under_open_error(self):
        for name in NAMES:
            with self.subTest(name):
                self.assertEqual(getattr(errors, name).__bases__, (errors.OpenError,))

    def test_no_two_are_one(self):
        self.assertEqual(len({getattr(errors, name) for name in NAMES}), len(NAMES))

    def test_no_name_is_made_of_its_name(self):
        self.assertEqual(errors.NoName("box").name, "box")
        self.assertEqual(errors.NoName(name="lid").name, "lid")
        with self.assertRaises(errors.OpenError) as taken:
            raise errors.NoName("key")
        self.assertEqual(taken.exception.name, "key")


if __name__ == "__main__":
    unittest.main()
