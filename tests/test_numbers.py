import unittest

from fewopen.errors import NoNumber
from fewopen.numbers import comes_to, is_prime, over
from helper import PRIMES, some_lines, square_sum


class IsPrime(unittest.TestCase):
    def test_the_numbers_around_two_to_ninety_seven(self):
        told = [number for number in range(-200, 400) if is_prime(number)]
        self.assertEqual(told, PRIMES)

    def test_it_tells_truths(self):
        for thing in (2, 97, 1, 4, 98, 101, "7", None):
            with self.subTest(repr(thing)):
                self.assertIsInstance(is_prime(thing), bool)

    def test_the_ends(self):
        self.assertIs(is_prime(2), True)
        self.assertIs(is_prime(97), True)
        for number in (-7, -2, 0, 1, 91, 95, 98, 99, 101, 103, 10 ** 59 + 7, -10 ** 59):
            with self.subTest(number):
                self.assertIs(is_prime(number), False)

    def test_truths_are_no_numbers(self):
        self.assertIs(is_prime(True), False)
        self.assertIs(is_prime(False), False)

    def test_things_of_other_kinds(self):
        for thing in ("7", "", b"7", 7.0, 2.5, float("nan"), float("inf"), 7 + 0j, None, [7],
                      (7,), {7: 7}, {7}, [], object(), int, len, NoNumber("7")):
            with self.subTest(repr(thing)):
                self.assertIs(is_prime(thing), False)


class Over(unittest.TestCase):
    def test_all_of_every_p(self):
        for p in PRIMES:
            for one in range(p):
                for other in range(1, p):
                    told = over(p, one, other)
                    if not 0 <= told < p or told * other % p != one:
                        self.fail((p, one, other, told))

    def test_over_nought_is_refused(self):
        for p in PRIMES:
            for one in range(p):
                with self.assertRaises(NoNumber):
                    over(p, one, 0)

    def test_numbers_somewhat_beyond_are_taken_by_p(self):
        self.assertEqual(over(7, 8, 9), over(7, 1, 2))
        self.assertEqual(over(7, -1, -2), over(7, 6, 5))
        self.assertEqual(over(101, 1, 2), 51)
        self.assertEqual(over(2, 10 ** 59 + 1, 10 ** 59 + 3), 1)

    def test_over_a_multiple_of_p_is_refused(self):
        with self.assertRaises(NoNumber):
            over(7, 1, 14)


class ComesTo(unittest.TestCase):
    def test_told_ones(self):
        self.assertEqual(comes_to(7, (1, 2, 3), (4, 5, 6)), 32 % 7)
        self.assertEqual(comes_to(2, (1, 1), (1, 1)), 0)
        self.assertEqual(comes_to(97, (96,), (96,)), 1)
        self.assertEqual(comes_to(5, (), ()), 0)

    def test_against_plain_sums(self):
        for p in (2, 3, 11, 97):
            for width in (1, 2, 12, 40):
                lines = some_lines(p + width, p, width, 6)
                for one in lines:
                    for other in lines:
                        self.assertEqual(comes_to(p, one, other), square_sum(p, one, other))

    def test_below_nought_is_taken_by_p(self):
        self.assertEqual(comes_to(5, (-1, 0), (2, 3)), 3)


if __name__ == "__main__":
    unittest.main()
