import copy
import random
import unittest

from fewopen.errors import TooMany
from fewopen.rules import fits, read_rule, turned_rule
from fewopen.sets import bars, open_sets
from fewopen.tables import table_of
from helper import PRIMES, all_sets, opens_plainly, some_rule, some_table


def least_and_greatest(lets_in, many):
    """By the words of the document, of a def that tells whether a set opens."""
    sets = all_sets(many)
    least = [hands for hands in sets if lets_in(hands) and not any(
        lets_in([other for other in hands if other != hand]) for hand in hands)]
    greatest = [hands for hands in sets if not lets_in(hands) and all(
        lets_in(sorted(hands + [hand])) for hand in range(many) if hand not in hands)]
    return (sorted(least), sorted(greatest))


class OpenSets(unittest.TestCase):
    def check(self, table, many):
        answer = open_sets(table, many)
        self.assertIs(type(answer), tuple)
        self.assertEqual([type(sets) for sets in answer], [list, list])
        for hands in answer[0] + answer[1]:
            self.assertIs(type(hands), list)
            self.assertEqual([type(hand) for hand in hands], [int] * len(hands))
        expected = least_and_greatest(lambda hands: opens_plainly(table, hands), many)
        self.assertEqual(answer, expected)
        return answer

    def test_told_ones(self):
        for text, many, least, greatest in (
                ("all (a, b)", 2, [[0, 1]], [[0], [1]]),
                ("all (a, b)", 3, [[0, 1]], [[0, 2], [1, 2]]),
                ("one (a, b)", 3, [[0], [1]], [[2]]),
                ("a", 1, [[0]], [[]]),
                ("b", 2, [[1]], [[0]]),
                ("2 of (a, b, c)", 3, [[0, 1], [0, 2], [1, 2]], [[0], [1], [2]]),
                ("one (d, all (a, c), all (a, b))", 4, [[0, 1], [0, 2], [3]], [[0], [1, 2]]),
                ("one (b, all (a, c, d))", 4, [[0, 2, 3], [1]], [[0, 2], [0, 3], [2, 3]])):
            with self.subTest(text):
                self.assertEqual(open_sets(table_of(7, read_rule(text)), many), (least, greatest))

    def test_sorted_as_lists_are(self):
        answer = open_sets(table_of(11, read_rule("one (all (a, b, h), all (a, c), b)")), 8)
        self.assertEqual(answer[0], [[0, 2], [1]])
        self.assertEqual(answer[1], [[0, 3, 4, 5, 6, 7], [2, 3, 4, 5, 6, 7]])

    def test_small_tables(self):
        for seed in range(150):
            many = 1 + seed % 5
            self.check(some_table(seed, (2, 3, 5, 97)[seed % 4], 1 + seed % 4, seed % 9, many), many)

    def test_wide_tables(self):
        for seed in range(6):
            self.check(some_table(seed, PRIMES[4 * seed + 4], 12, 24, 6), 6)

    def test_one_hand(self):
        self.assertEqual(open_sets((5, 1, ((0, (3,)),)), 1), ([[0]], [[]]))
        self.assertEqual(open_sets((5, 1, ((0, (0,)),)), 1), ([], [[0]]))
        self.assertEqual(open_sets((5, 1, ()), 1), ([], [[0]]))

    def test_eight_hands(self):
        table = table_of(11, read_rule("4 of (a, b, c, d, e, f, g, h)"))
        answer = self.check(table, 8)
        self.assertEqual((len(answer[0]), len(answer[1])), (70, 56))
        self.check(some_table(7, 2, 6, 20, 8), 8)

    def test_a_table_that_no_set_opens(self):
        for many in range(1, 9):
            every = list(range(many))
            self.assertEqual(open_sets((7, 3, ()), many), ([], [every]))
            self.assertEqual(open_sets((7, 2, ((0, (0, 4)),)), many), ([], [every]))

    def test_a_table_that_the_set_of_no_hands_opens(self):
        # None of the bounds' widths has one; that of no place at all has.
        for seed in range(40):
            table = some_table(seed, PRIMES[seed % 25], 1 + seed % 12, seed % 9, 3)
            self.assertNotIn([], open_sets(table, 3)[0])
        self.assertEqual(open_sets((7, 0, ()), 2), ([[]], []))
        self.assertIs(bars((7, 0, ()), 2, [0, 1]), False)

    def test_of_a_rule_they_are_those_of_the_rule(self):
        chance = random.Random(21)
        made = 0
        for number in range(120):
            rule = some_rule(chance, 4, 10, 5)
            try:
                table = table_of((2, 5, 11, 97)[number % 4], rule)
            except TooMany:
                continue
            made += 1
            expected = least_and_greatest(lambda hands: fits(rule, hands), 5)
            self.assertEqual(open_sets(table, 5), expected)
        self.assertGreater(made, 60)

    def test_somewhat_beyond_eight_hands(self):
        rule = read_rule("all (a, j)")
        self.assertEqual(open_sets(table_of(3, rule), 10),
                         ([[0, 9]], [[0, 1, 2, 3, 4, 5, 6, 7, 8], [1, 2, 3, 4, 5, 6, 7, 8, 9]]))


class Bars(unittest.TestCase):
    def test_told_ones(self):
        table = table_of(7, read_rule("2 of (a, b, c)"))
        told = [hands for hands in all_sets(3) if bars(table, 3, hands)]
        self.assertEqual(told, [[0, 1], [0, 2], [1, 2], [0, 1, 2]])
        # A hand more that has no row changes nothing.
        self.assertIs(bars(table, 4, [0, 3]), False)
        self.assertIs(bars(table, 4, [0, 1]), True)

    def test_just_where_the_others_do_not_open(self):
        seen = {True: 0, False: 0}
        for seed in range(150):
            many = 1 + seed % 5
            table = some_table(seed, (2, 3, 5, 97)[seed % 4], 1 + seed % 4, seed % 9, many)
            for hands in all_sets(many):
                others = [hand for hand in range(many) if hand not in hands]
                told = bars(table, many, hands)
                self.assertIs(told, not opens_plainly(table, others))
                seen[told] += 1
        self.assertGreater(min(seen.values()), 200)

    def test_the_set_of_no_hands_and_of_all(self):
        table = table_of(7, read_rule("all (a, b)"))
        self.assertIs(bars(table, 2, []), False)
        self.assertIs(bars(table, 2, [0, 1]), True)
        self.assertIs(bars((7, 2, ()), 1, []), True)
        self.assertIs(bars((7, 2, ()), 8, list(range(8))), True)

    def test_one_hand_and_eight(self):
        self.assertIs(bars((5, 1, ((0, (3,)),)), 1, []), False)
        self.assertIs(bars((5, 1, ((0, (3,)),)), 1, [0]), True)
        table = table_of(11, read_rule("4 of (a, b, c, d, e, f, g, h)"))
        self.assertIs(bars(table, 8, [0, 2, 4, 6]), False)
        self.assertIs(bars(table, 8, [0, 2, 4, 6, 7]), True)

    def test_a_rule_turned_about_opens_for_just_the_sets_that_bar(self):
        chance = random.Random(22)
        made = 0
        for _ in range(100):
            rule = some_rule(chance, 3, 8, 5)
            try:
                table, turned = table_of(11, rule), table_of(11, turned_rule(rule))
            except TooMany:
                continue
            made += 1
            for hands in all_sets(5):
                self.assertIs(bars(table, 5, hands), opens_plainly(turned, hands))
        self.assertGreater(made, 40)

    def test_hands_somewhat_beyond(self):
        table = table_of(7, read_rule("all (a, b)"))
        self.assertIs(bars(table, 2, [0, 9]), True)
        self.assertIs(bars(table, 2, [9]), False)


class TheAskersOwn(unittest.TestCase):
    def test_what_is_handed_in_stays(self):
        table, hands = table_of(7, read_rule("2 of (a, b, c)")), [0, 2]
        before = copy.deepcopy((table, hands))
        open_sets(table, 3)
        bars(table, 3, hands)
        self.assertEqual((table, hands), before)

    def test_a_change_of_what_was_told_changes_nothing(self):
        table = table_of(7, read_rule("2 of (a, b, c)"))
        first = open_sets(table, 3)
        kept = copy.deepcopy(first)
        for sets in first:
            for hands in sets:
                hands.append("spoilt")
            sets.pop()
        self.assertEqual(open_sets(table, 3), kept)

    def test_no_list_is_told_twice(self):
        told = open_sets(table_of(7, read_rule("2 of (a, b, c, d)")), 5)
        lists = [told[0], told[1], *told[0], *told[1]]
        self.assertEqual(len({id(one) for one in lists}), len(lists))

    def test_hands_changed_behind_the_call_are_asked_anew(self):
        table, hands = table_of(7, read_rule("2 of (a, b, c)")), [0]
        self.assertIs(bars(table, 3, hands), False)
        hands.append(1)
        self.assertIs(bars(table, 3, hands), True)


if __name__ == "__main__":
    unittest.main()
