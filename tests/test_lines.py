import copy
import itertools
import unittest

from fewopen.lines import held, nought_sums
from helper import PRIMES, all_lines, rank, some_lines, square_sum, sum_of_lines


class LineCase(unittest.TestCase):
    def is_by_p(self, p, numbers):
        for number in numbers:
            self.assertIs(type(number), int)
            self.assertTrue(0 <= number < p, number)

    def check_held(self, p, width, lines, wished):
        told = held(p, width, lines, wished)
        self.assertIs(type(told), tuple)
        self.assertEqual(len(told), 2)
        if told[0] == "sum":
            self.assertIs(type(told[1]), list)
            self.assertEqual(len(told[1]), len(lines))
            self.assertEqual(sum_of_lines(p, width, told[1], lines), wished)
        else:
            self.assertEqual(told[0], "turn")
            self.assertIs(type(told[1]), tuple)
            self.assertEqual(len(told[1]), width)
            for line in lines:
                self.assertEqual(square_sum(p, line, told[1]), 0)
            self.assertEqual(square_sum(p, wished, told[1]), 1)
        self.is_by_p(p, told[1])
        return told[0]

    def check_nought_sums(self, p, width, lines):
        told = nought_sums(p, width, lines)
        self.assertIs(type(told), list)
        for multipliers in told:
            self.assertIs(type(multipliers), list)
            self.assertEqual(len(multipliers), len(lines))
            self.is_by_p(p, multipliers)
            self.assertEqual(sum_of_lines(p, width, multipliers, lines), (0,) * width)
        # As many as there must be, and none that the others make up for.
        self.assertEqual(len(told), len(lines) - rank(p, lines))
        self.assertEqual(rank(p, told), len(told))
        return told


class Held(LineCase):
    def test_a_told_sum(self):
        self.assertEqual(held(7, 2, [(1, 1), (1, 2)], (1, 0)), ("sum", [2, 6]))

    def test_a_told_turn(self):
        self.assertEqual(held(7, 2, [(1, 1)], (1, 0)), ("turn", (1, 6)))

    def test_all_small_ones(self):
        for p, width, most in ((2, 2, 3), (2, 3, 2), (3, 2, 2), (5, 1, 2)):
            for many in range(most + 1):
                for lines in itertools.product(all_lines(p, width), repeat=many):
                    reached = {sum_of_lines(p, width, multipliers, lines)
                               for multipliers in all_lines(p, many)}
                    for wished in all_lines(p, width):
                        told = self.check_held(p, width, list(lines), wished)
                        self.assertEqual(told, "sum" if wished in reached else "turn")

    def test_all_p_and_widths_to_forty(self):
        seen = {"sum": 0, "turn": 0}
        for number, p in enumerate(PRIMES):
            for width in (1, 2, 3, 7, 12, 40):
                for many in (0, 1, width - 1, width, width + 5):
                    lines = some_lines(1000 * number + width, p, width, many)
                    for wished in some_lines(number + many, p, width, 3):
                        told = self.check_held(p, width, lines, wished)
                        self.assertEqual(told == "sum",
                                         rank(p, lines) == rank(p, lines + [wished]))
                        seen[told] += 1
        self.assertGreater(min(seen.values()), 100)

    def test_a_width_of_nought(self):
        self.assertEqual(held(2, 0, [], ()), ("sum", []))
        self.assertEqual(self.check_held(97, 0, [(), (), ()], ()), "sum")

    def test_a_width_of_forty(self):
        units = [tuple(int(k == place) for k in range(40)) for place in range(40)]
        wished = tuple(range(1, 41))
        self.assertEqual(held(97, 40, units, wished), ("sum", list(wished)))
        self.assertEqual(self.check_held(97, 40, units[:39], wished), "turn")
        self.assertEqual(self.check_held(2, 40, units * 3, units[7]), "sum")

    def test_no_lines(self):
        self.assertEqual(held(5, 3, [], (0, 0, 0)), ("sum", []))
        self.assertEqual(self.check_held(5, 3, [], (0, 2, 0)), "turn")
        self.assertEqual(self.check_held(2, 1, [], (1,)), "turn")

    def test_lines_alike_and_noughts(self):
        lines = [(0, 0), (3, 1), (3, 1), (0, 0), (6, 2)]
        self.assertEqual(self.check_held(11, 2, lines, (9, 3)), "sum")
        self.assertEqual(self.check_held(11, 2, lines, (9, 4)), "turn")
        self.assertEqual(self.check_held(11, 2, lines, (0, 0)), "sum")
        self.assertEqual(self.check_held(11, 2, [(0, 0), (0, 0)], (0, 1)), "turn")

    def test_numbers_somewhat_beyond_are_taken_by_p(self):
        told = held(7, 2, [(8, 8), (1, -5)], (8, 7))
        self.assertEqual(told, ("sum", [2, 6]))
        told = held(7, 2, [(7, 14)], (7, 8))
        self.assertEqual((told[0], told[1][1]), ("turn", 1))
        self.is_by_p(7, told[1])

    def test_somewhat_beyond_the_bounds(self):
        lines = some_lines(5, 101, 45, 60)
        self.check_held(101, 45, lines, some_lines(6, 101, 45, 1)[0])


class NoughtSums(LineCase):
    def test_a_told_one(self):
        self.assertEqual(nought_sums(5, 1, [(1,), (2,)]), [[3, 1]])

    def test_all_small_ones_span_all_nought_sums(self):
        for p, width, many in ((2, 2, 3), (2, 1, 4), (3, 2, 2), (3, 1, 3)):
            for lines in itertools.product(all_lines(p, width), repeat=many):
                told = self.check_nought_sums(p, width, list(lines))
                nought = {multipliers for multipliers in all_lines(p, many)
                          if not any(sum_of_lines(p, width, multipliers, lines))}
                spanned = {sum_of_lines(p, many, shares, told)
                           for shares in all_lines(p, len(told))}
                self.assertEqual(spanned, nought)
                self.assertEqual(p ** len(told), len(nought))

    def test_all_p_and_widths_to_forty(self):
        for number, p in enumerate(PRIMES):
            for width in (1, 2, 5, 12, 40):
                for many in (0, 1, width, width + 4):
                    self.check_nought_sums(p, width, some_lines(number + width, p, width, many))

    def test_none_where_only_noughts_do(self):
        self.assertEqual(nought_sums(7, 2, [(1, 1), (1, 2)]), [])
        self.assertEqual(nought_sums(2, 1, [(1,)]), [])

    def test_no_lines(self):
        self.assertEqual(nought_sums(7, 4, []), [])
        self.assertEqual(nought_sums(7, 0, []), [])

    def test_a_width_of_nought(self):
        told = nought_sums(3, 0, [(), (), ()])
        self.assertEqual(len(told), 3)
        self.assertEqual(rank(3, told), 3)

    def test_lines_alike_and_noughts(self):
        self.assertEqual(len(self.check_nought_sums(11, 2, [(0, 0), (3, 1), (3, 1), (0, 0)])), 3)
        self.assertEqual(len(self.check_nought_sums(97, 40, [(0,) * 40] * 5)), 5)
        self.assertEqual(len(self.check_nought_sums(2, 40, [(1,) * 40] * 5)), 4)

    def test_numbers_somewhat_beyond_are_taken_by_p(self):
        self.assertEqual(nought_sums(5, 1, [(6,), (-3,)]), [[3, 1]])


class TheAskersOwn(LineCase):
    def test_what_is_handed_in_stays(self):
        for many in (0, 1, 4, 9):
            lines = some_lines(many, 13, 4, many)
            wished = (3, 0, 1, 12)
            before = copy.deepcopy(lines)
            held(13, 4, lines, wished)
            nought_sums(13, 4, lines)
            self.assertEqual(lines, before)
            self.assertEqual(wished, (3, 0, 1, 12))

    def test_a_change_of_what_was_told_changes_nothing(self):
        lines = [(1, 1), (1, 2), (2, 3)]
        first = held(7, 2, lines, (1, 0))
        sums = nought_sums(7, 2, lines)
        kept = copy.deepcopy((first, sums))
        first[1][0] = "spoilt"
        first[1].append(9)
        sums[0].clear()
        sums.append("spoilt")
        self.assertEqual((held(7, 2, lines, (1, 0)), nought_sums(7, 2, lines)), kept)

    def test_what_was_told_stays_whatever_is_done_behind_it(self):
        lines = [(1, 1), (1, 2), (2, 3)]
        told = (held(7, 2, lines, (1, 0)), nought_sums(7, 2, lines))
        kept = copy.deepcopy(told)
        lines[0] = (0, 0)
        lines.append((5, 5))
        held(7, 2, lines, (0, 1))
        nought_sums(7, 2, lines)
        self.assertEqual(told, kept)

    def test_lines_changed_behind_the_call_are_asked_anew(self):
        lines = [(1, 1), (1, 2)]
        self.assertEqual(self.check_held(7, 2, lines, (1, 0)), "sum")
        self.assertEqual(self.check_nought_sums(7, 2, lines), [])
        lines[1] = (2, 2)
        self.assertEqual(self.check_held(7, 2, lines, (1, 0)), "turn")
        self.assertEqual(len(self.check_nought_sums(7, 2, lines)), 1)
        lines[1] = (1, 2)
        self.assertEqual(self.check_held(7, 2, lines, (1, 0)), "sum")


if __name__ == "__main__":
    unittest.main()
