import copy
import random
import unittest

from fewopen.curves import curve_at, through
from fewopen.errors import NoNumber
from helper import PRIMES, LinesCase, all_lines, curve_plainly, some_numbers


def some_points(chance, p, many):
    return [(x, chance.randrange(p)) for x in chance.sample(range(p), many)]


class CurveAt(unittest.TestCase):
    def test_told_ones(self):
        self.assertEqual(curve_at(11, (3, 5), 1), 8)
        self.assertEqual(curve_at(11, (3, 5), 2), 2)
        self.assertEqual(curve_at(11, (3, 5), 10), 9)
        self.assertEqual(curve_at(7, (1, 2, 3), 4), 1)
        self.assertEqual(curve_at(2, (1, 1), 1), 0)
        self.assertEqual(curve_at(97, (96,), 50), 96)

    def test_at_0_it_has_its_first_number(self):
        chance = random.Random(1)
        for p in PRIMES:
            for width in (1, 2, 10):
                curve = tuple(some_numbers(chance, p, width))
                self.assertEqual(curve_at(p, curve, 0), curve[0])

    def test_at_1_it_has_the_sum_of_its_numbers(self):
        chance = random.Random(2)
        for p in PRIMES:
            curve = tuple(some_numbers(chance, p, 10))
            self.assertEqual(curve_at(p, curve, 1), sum(curve) % p)

    def test_a_width_of_1_is_the_same_everywhere(self):
        for p in (2, 5, 97):
            for number in (0, 1, p - 1):
                self.assertEqual([curve_at(p, (number,), x) for x in range(p)], [number] * p)

    def test_each_place_has_its_power(self):
        for p in (2, 3, 97):
            for k in range(10):
                for x in range(p):
                    curve = tuple(int(place == k) for place in range(10))
                    self.assertEqual(curve_at(p, curve, x), x ** k % p)

    def test_all_small_curves(self):
        for p, width in ((2, 4), (3, 3), (5, 3), (7, 2)):
            for curve in all_lines(p, width):
                for x in range(p):
                    self.assertEqual(curve_at(p, curve, x), curve_plainly(p, curve, x))

    def test_wide_curves_by_every_p(self):
        chance = random.Random(3)
        for p in PRIMES:
            for width in range(1, 11):
                curve = tuple(some_numbers(chance, p, width))
                for x in {0, 1, p - 1, chance.randrange(p)}:
                    answer = curve_at(p, curve, x)
                    self.assertIs(type(answer), int)
                    self.assertEqual(answer, curve_plainly(p, curve, x))

    def test_somewhat_beyond(self):
        self.assertEqual(curve_at(11, (14, -6), 12), 8)
        self.assertEqual(curve_at(11, (1,) * 12, 1), 1)
        self.assertEqual(curve_at(11, (3, 5), -1), 9)
        self.assertEqual(curve_at(11, (), 4), 0)


class Through(LinesCase):
    def check(self, p, points):
        curve = through(p, points)
        self.assertIs(type(curve), tuple)
        self.assertEqual(len(curve), len(points))
        self.is_by_p(p, curve)
        for x, number in points:
            self.assertEqual(curve_plainly(p, curve, x), number)
        return curve

    def test_told_ones(self):
        self.assertEqual(through(11, [(1, 8), (2, 2)]), (3, 5))
        self.assertEqual(through(11, [(2, 2), (1, 8)]), (3, 5))
        self.assertEqual(through(11, [(1, 8), (2, 2), (10, 9)]), (3, 5, 0))
        self.assertEqual(through(2, [(0, 1), (1, 0)]), (1, 1))
        self.assertEqual(through(7, [(1, 1), (2, 4), (3, 2)]), (0, 0, 1))

    def test_one_point(self):
        for p in (2, 3, 97):
            for x in (0, 1, p - 1):
                for number in (0, 1, p - 1):
                    self.assertEqual(self.check(p, [(x, number)]), (number,))

    def test_ten_points(self):
        chance = random.Random(4)
        for p in PRIMES[4:]:
            for _ in range(4):
                self.check(p, some_points(chance, p, 10))

    def test_every_p_and_every_count(self):
        chance = random.Random(5)
        for p in PRIMES:
            for many in range(1, min(p, 10) + 1):
                points = some_points(chance, p, many)
                curve = self.check(p, points)
                chance.shuffle(points)
                self.assertEqual(self.check(p, points), curve)

    def test_points_with_noughts(self):
        for p in (2, 3, 11, 97):
            many = min(p, 10)
            self.assertEqual(self.check(p, [(x, 0) for x in range(many)]), (0,) * many)
            for one in range(many):
                self.check(p, [(x, int(x == one)) for x in range(many)])

    def test_just_one_curve_goes_through(self):
        chance = random.Random(6)
        for p, many in ((2, 2), (3, 3), (5, 3), (5, 4), (7, 3)):
            lines = all_lines(p, many)
            for _ in range(10):
                points = some_points(chance, p, many)
                going = [curve for curve in lines
                         if all(curve_plainly(p, curve, x) == number for x, number in points)]
                self.assertEqual(going, [through(p, points)])

    def test_the_curve_that_the_points_were_taken_from(self):
        chance = random.Random(7)
        for p in (11, 13, 97):
            for width in range(1, 11):
                curve = tuple(some_numbers(chance, p, width))
                points = [(x, curve_at(p, curve, x)) for x in chance.sample(range(p), width)]
                self.assertEqual(through(p, points), curve)

    def test_like_x_are_refused(self):
        for p, points in (
                (11, [(1, 8), (1, 2)]), (11, [(1, 8), (1, 8)]), (11, [(0, 0), (0, 0)]),
                (2, [(0, 1), (1, 1), (0, 1)]), (97, [(96, 1), (3, 1), (96, 2)]),
                (97, [(x, x) for x in range(9)] + [(0, 0)]),
                (97, [(8, 5)] + [(x, x) for x in range(9)]),
                (7, [(3, 1), (3, 1), (3, 1)])):
            with self.assertRaises(NoNumber):
                through(p, points)

    def test_like_x_at_any_two_places_are_refused(self):
        for one in range(10):
            for other in range(one):
                points = [(x, x * x % 13) for x in range(10)]
                points[one] = (other, 7)
                with self.assertRaises(NoNumber):
                    through(13, points)

    def test_somewhat_beyond(self):
        self.assertEqual(through(11, []), ())
        self.assertEqual(through(11, [(12, 19), (-9, -9)]), (3, 5))
        chance = random.Random(8)
        self.check(101, some_points(chance, 101, 12))
        with self.assertRaises(NoNumber):
            through(11, [(1, 8), (12, 8)])


class TheAskersOwn(unittest.TestCase):
    def test_what_is_handed_in_stays(self):
        points = [(1, 8), (2, 2), (5, 0)]
        curve = [3, 5, 7]
        before = copy.deepcopy((points, curve))
        through(11, points)
        curve_at(11, curve, 4)
        self.assertEqual((points, curve), before)
        again = [(1, 8), (1, 2)]
        with self.assertRaises(NoNumber):
            through(11, again)
        self.assertEqual(again, [(1, 8), (1, 2)])

    def test_points_changed_behind_the_call_are_asked_anew(self):
        points = [(1, 8), (2, 2)]
        first = through(11, points)
        points.append((3, 0))
        self.assertEqual(len(through(11, points)), 3)
        points.pop()
        points[0] = (1, 9)
        self.assertEqual(through(11, points), (5, 4))
        self.assertEqual(first, (3, 5))


if __name__ == "__main__":
    unittest.main()
