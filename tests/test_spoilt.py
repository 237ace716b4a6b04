import copy
import math
import random
import unittest

from fewopen.errors import TooFew
from fewopen.spoilt import meant
from helper import PRIMES, LinesCase, all_lines, curve_plainly, some_numbers

LINE = [(1, 8), (2, 2), (3, 7), (4, 1)]


def missed_plainly(p, curve, points):
    return sorted(x for x, number in points if curve_plainly(p, curve, x) != number)


def meant_plainly(p, width, points, most):
    """All curves of the width gone through one by one."""
    return [curve for curve in all_lines(p, width)
            if len(missed_plainly(p, curve, points)) <= most]


def spoilt_points(chance, p, width, many, spoilt):
    """Points of a curve, in any order, of which so many are spoilt; the curve; the spoilt x."""
    curve = tuple(some_numbers(chance, p, width))
    points = [(x, curve_plainly(p, curve, x)) for x in chance.sample(range(p), many)]
    places = chance.sample(range(many), spoilt)
    for place in places:
        x, number = points[place]
        points[place] = (x, (number + chance.randrange(1, p)) % p)
    return points, curve, sorted(points[place][0] for place in places)


class MeantCase(LinesCase):
    def is_meant(self, p, width, points, most, curve):
        self.assertIs(type(curve), tuple)
        self.assertEqual(len(curve), width)
        self.is_by_p(p, curve)
        self.assertLessEqual(len(missed_plainly(p, curve, points)), most)

    def check(self, p, width, points, most):
        answer = meant(p, width, points, most)
        self.assertIs(type(answer), tuple)
        if answer[0] == "none":
            self.assertEqual(answer, ("none",))
        elif answer[0] == "one":
            self.assertEqual(len(answer), 3)
            self.is_meant(p, width, points, most, answer[1])
            self.assertIs(type(answer[2]), list)
            self.is_by_p(p, answer[2])
            self.assertEqual(answer[2], missed_plainly(p, answer[1], points))
        else:
            self.assertEqual((answer[0], len(answer)), ("more", 3))
            self.is_meant(p, width, points, most, answer[1])
            self.is_meant(p, width, points, most, answer[2])
            self.assertNotEqual(answer[1], answer[2])
            self.assertGreater(2 * most, len(points) - width)
        return answer

    def check_all_curves(self, p, width, points, most):
        answer = self.check(p, width, points, most)
        curves = meant_plainly(p, width, points, most)
        if answer[0] == "more":
            self.assertGreater(len(curves), 1)
            self.assertIn(answer[1], curves)
            self.assertIn(answer[2], curves)
        else:
            self.assertEqual(curves, list(answer[1:2]))
        return answer[0]


class Meant(MeantCase):
    def test_told_ones(self):
        self.assertEqual(meant(11, 2, LINE, 0), ("one", (3, 5), []))
        self.assertEqual(meant(11, 2, LINE[:2] + [(3, 0), (4, 1)], 1), ("one", (3, 5), [3]))
        self.assertEqual(meant(11, 2, LINE[:2] + [(3, 0), (4, 1)], 0), ("none",))
        self.assertEqual(meant(11, 2, LINE[:2], 0), ("one", (3, 5), []))
        self.assertEqual(meant(5, 1, [(0, 2), (1, 2), (2, 4), (4, 2)], 1), ("one", (2,), [2]))
        self.assertEqual(meant(5, 1, [(0, 2), (1, 3), (2, 4)], 1), ("none",))
        answer = meant(5, 1, [(0, 2), (1, 3)], 1)
        self.assertEqual((answer[0], sorted(answer[1:])), ("more", [(2,), (3,)]))

    def test_the_missed_x_are_rising_in_whatever_order_points_come(self):
        points = [(9, 0), (4, 1), (2, 2), (7, 7), (1, 8), (3, 7), (5, 6), (0, 0), (6, 0)]
        for turn in range(len(points)):
            answer = self.check(11, 2, points[turn:] + points[:turn], 3)
            self.assertEqual(answer, ("one", (3, 5), [0, 7, 9]))
        self.assertEqual(self.check(11, 2, points, 2), ("none",))

    def test_fewer_are_missed_than_may_be(self):
        points, curve, spoilt = spoilt_points(random.Random(1), 97, 3, 10, 1)
        for most in (1, 2, 3):
            self.assertEqual(self.check(97, 3, points, most), ("one", curve, spoilt))

    def test_two_curves_that_share_the_points(self):
        one, other = (3, 5), (4, 9)
        points = [(x, curve_plainly(97, one if x < 5 else other, x)) for x in range(10)]
        self.assertEqual(self.check(97, 2, points, 4), ("none",))
        answer = self.check(97, 2, points, 5)
        self.assertEqual((answer[0], sorted(answer[1:])), ("more", [one, other]))
        points[7] = (7, 50)
        self.assertEqual(self.check(97, 2, points, 5), ("one", one, [5, 6, 7, 8, 9]))

    def test_two_curves_where_the_second_is_found_last(self):
        for p in (11, 97):
            one, other = (1, 2, 3), (4, 5, 6)
            points = [(x, curve_plainly(p, one, x)) for x in range(1, 4)]
            points += [(x, curve_plainly(p, other, x)) for x in range(4, 7)]
            for turn in range(6):
                answer = self.check(p, 3, points[turn:] + points[:turn], 3)
                self.assertEqual(answer[0], "more")

    def test_as_many_points_as_the_width(self):
        chance = random.Random(2)
        for p in PRIMES:
            for width in range(1, min(p, 10) + 1):
                points, curve, spoilt = spoilt_points(chance, p, width, width, 0)
                self.assertEqual(self.check(p, width, points, 0), ("one", curve, []))
                with self.assertRaises(TooFew):
                    meant(p, width, points, 1)

    def test_a_width_of_ten(self):
        points = [(x, x ** 9 % 97) for x in range(10)]
        self.assertEqual(meant(97, 10, points, 0), ("one", (0,) * 9 + (1,), []))

    def test_all_points_may_be_spoilt_but_as_many_as_the_width(self):
        for p, width, many in ((97, 5, 10), (11, 4, 10), (13, 1, 10), (97, 9, 10)):
            points = [(x, (x * x * x + x // 3) % p) for x in range(many)]
            self.assertEqual(self.check(p, width, points, many - width)[0], "more")

    def test_p_of_2(self):
        self.assertEqual(meant(2, 1, [(0, 1), (1, 1)], 0), ("one", (1,), []))
        self.assertEqual(meant(2, 1, [(0, 1), (1, 0)], 0), ("none",))
        self.assertEqual(meant(2, 2, [(0, 1), (1, 0)], 0), ("one", (1, 1), []))
        self.assertEqual(self.check(2, 1, [(0, 1), (1, 0)], 1)[0], "more")
        self.assertEqual(meant(2, 1, [(1, 1), (0, 1)], 1), ("one", (1,), []))

    def test_somewhat_beyond(self):
        self.assertEqual(meant(11, 2, [(1, 19), (2, -9), (3, 7)], 0), ("one", (3, 5), []))
        self.assertEqual(meant(11, 2, LINE, -1), ("none",))
        self.assertEqual(meant(11, 2, LINE, -5), ("none",))
        self.assertEqual(meant(11, 0, [(1, 0), (4, 5)], 1), ("one", (), [4]))
        points, curve, spoilt = spoilt_points(random.Random(3), 101, 4, 12, 4)
        self.assertEqual(meant(101, 4, points, 4), ("one", curve, spoilt))


class AllCurves(MeantCase):
    def test_small_widths_and_any_points(self):
        chance = random.Random(4)
        words = {"none": 0, "one": 0, "more": 0}
        for _ in range(900):
            p = chance.choice((2, 3, 5, 7))
            many = chance.randint(1, p)
            width = chance.randint(1, min(many, 3))
            most = chance.randint(0, many - width)
            spoilt = chance.randint(0, many)
            points = spoilt_points(chance, p, width, many, spoilt)[0]
            words[self.check_all_curves(p, width, points, most)] += 1
        self.assertGreater(min(words.values()), 50)

    def test_ten_points(self):
        chance = random.Random(5)
        words = {"none": 0, "one": 0, "more": 0}
        for number in range(120):
            p, width = ((11, 1), (11, 2), (13, 2), (97, 1))[number % 4]
            spoilt = chance.randint(0, 8)
            points = spoilt_points(chance, p, width, 10, spoilt)[0]
            for most in range(11 - width):
                words[self.check_all_curves(p, width, points, most)] += 1
        self.assertGreater(min(words.values()), 50)

    def test_every_few_points_of_a_small_p(self):
        for numbers in all_lines(3, 3):
            points = list(zip((2, 0, 1), numbers))
            for width in (1, 2, 3):
                for most in range(4 - width):
                    self.check_all_curves(3, width, points, most)


class FewEnough(MeantCase):
    def test_few_enough_spoilt_points_are_found(self):
        chance = random.Random(6)
        for p in PRIMES[4:]:
            for width in range(1, 11):
                most = (10 - width) // 2
                for spoilt in range(most + 1):
                    points, curve, xs = spoilt_points(chance, p, width, 10, spoilt)
                    self.assertEqual(self.check(p, width, points, most), ("one", curve, xs))

    def test_more_is_never_told_where_few_enough_may_be_spoilt(self):
        chance = random.Random(7)
        words = {"none": 0, "one": 0}
        for _ in range(600):
            p = chance.choice(PRIMES)
            many = chance.randint(1, min(p, 10))
            width = chance.randint(1, many)
            most = chance.randint(0, (many - width) // 2)
            points = spoilt_points(chance, p, width, many, chance.randint(0, most + 1))[0]
            words[self.check(p, width, points, most)[0]] += 1
        self.assertGreater(min(words.values()), 50)

    def test_one_more_may_make_it_more(self):
        # Twice most is one more than there are points more than the width: of two curves that
        # share as many points as the width less one, each has half of the others.
        for p in (11, 97):
            for width in range(1, 9):
                most = (11 - width) // 2
                points = []
                for x in range(width + 2 * most - 1):
                    other = math.prod(x - nought for nought in range(width - 1)) % p
                    points.append((x, 0 if x < width - 1 + most else other))
                self.assertEqual(self.check(p, width, points, most)[0], "more")


class Refused(unittest.TestCase):
    def test_most_one_more_than_there_are_points_more_than_the_width(self):
        for p, many in ((2, 2), (3, 3), (11, 10), (97, 10)):
            points = [(x, 0) for x in range(many)]
            for width in range(1, many + 1):
                self.assertEqual(meant(p, width, points, 0), ("one", (0,) * width, []))
                self.assertNotEqual(meant(p, width, points, many - width)[0], "none")
                for beyond in (1, 2, 50):
                    with self.assertRaises(TooFew):
                        meant(p, width, points, many - width + beyond)

    def test_fewer_points_than_the_width(self):
        for p in (2, 11, 97):
            for width in range(1, 11):
                for many in range(min(width, p + 1)):
                    for most in (0, 1, 9):
                        with self.assertRaises(TooFew):
                            meant(p, width, [(x, 1) for x in range(many)], most)

    def test_no_points(self):
        with self.assertRaises(TooFew):
            meant(11, 1, [], 0)

    def test_fewer_points_where_fewer_than_none_may_be_spoilt(self):
        with self.assertRaises(TooFew):
            meant(11, 3, [(0, 1), (1, 1)], -1)

    def test_a_great_most(self):
        with self.assertRaises(TooFew):
            meant(11, 2, LINE, 10 ** 59)


class TheAskersOwn(unittest.TestCase):
    POINTS = [(4, 1), (3, 0), (2, 2), (1, 8)]

    def test_what_is_handed_in_stays(self):
        points = list(self.POINTS)
        for most in (0, 1, 2):
            before = copy.deepcopy(points)
            meant(11, 2, points, most)
            self.assertEqual(points, before)
        with self.assertRaises(TooFew):
            meant(11, 2, points, 3)
        self.assertEqual(points, self.POINTS)

    def test_a_change_of_what_was_told_changes_nothing(self):
        first = meant(11, 2, self.POINTS, 1)
        first[2].append(9)
        first[2][0] = "spoilt"
        self.assertEqual(meant(11, 2, self.POINTS, 1), ("one", (3, 5), [3]))

    def test_points_changed_behind_the_call_are_asked_anew(self):
        points = list(self.POINTS)
        first = meant(11, 2, points, 1)
        points[1] = (3, 7)
        self.assertEqual(meant(11, 2, points, 1), ("one", (3, 5), []))
        self.assertEqual(first, ("one", (3, 5), [3]))


if __name__ == "__main__":
    unittest.main()
