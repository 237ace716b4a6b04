import copy
import random
import unittest

from fewopen.compare import alike, idle, trimmed
from fewopen.rules import read_rule
from fewopen.tables import is_table, table_of
from helper import (PRIMES, LinesCase, all_sets, lines_of, opens_plainly, some_rule, some_table,
                    unit_line)


def table_from(p, text):
    return table_of(p, read_rule(text))


def first_in_just_one(one, other, many):
    """(hands, which), of all sets gone through one by one, or None."""
    for hands in sorted(all_sets(many)):
        opened = (opens_plainly(one, hands), opens_plainly(other, hands))
        if opened[0] != opened[1]:
            return (hands, opened.index(True))
    return None


def idle_plainly(table, many):
    """A hand is in a least set just where some set opens with it and doesn't without it."""
    return [hand for hand in range(many) if not any(
        opens_plainly(table, hands) and
        not opens_plainly(table, [other for other in hands if other != hand])
        for hands in all_sets(many))]


def spoilt_table(chance, table):
    """The table with one number of one row changed, or without one of its rows."""
    p, wide, rows = table
    if not rows:
        return table
    at = chance.randrange(len(rows))
    if chance.random() < 0.4:
        return (p, wide, rows[:at] + rows[at + 1:])
    hand, line = rows[at]
    place = chance.randrange(wide)
    line = line[:place] + ((line[place] + 1) % p,) + line[place + 1:]
    return (p, wide, rows[:at] + ((hand, line),) + rows[at + 1:])


class Alike(LinesCase):
    def check(self, one, other, many):
        answer = alike(one, other, many)
        expected = first_in_just_one(one, other, many)
        if expected is None:
            self.assertIsNone(answer)
            return answer
        self.assertIs(type(answer), tuple)
        self.assertEqual(len(answer), 4)
        hands, which, multipliers, turn = answer
        self.assertIs(type(hands), list)
        self.assertEqual([type(hand) for hand in hands], [int] * len(hands))
        self.assertIs(type(which), int)
        self.assertEqual((hands, which), expected)
        opened, shut = (one, other) if which == 0 else (other, one)
        self.are_multipliers(opened[0], multipliers, lines_of(opened, hands),
                             unit_line(opened[1]))
        self.is_turn(shut[0], shut[1], turn, lines_of(shut, hands))
        return answer

    def test_told_ones(self):
        two = table_from(11, "2 of (a, b, c)")
        self.assertIsNone(alike(two, two, 3))
        self.assertIsNone(alike(two, table_from(5, "one (all (a, b), all (a, c), all (b, c))"), 3))
        self.assertEqual(alike((7, 1, ((0, (3,)),)), (5, 1, ((1, (2,)),)), 2), ([0], 0, [5], (1,)))
        self.assertEqual(alike((7, 1, ((1, (3,)),)), (5, 1, ((0, (2,)),)), 2), ([0], 1, [3], (1,)))
        self.assertEqual(alike(two, (11, 2, ((0, (1, 1)), (1, (1, 2)))), 3),
                         ([0, 2], 0, [7, 5], (1, 10)))

    def test_the_first_as_lists_are_sorted_not_the_smallest(self):
        # [0, 1] stands ahead of [1], and [0, 1, 2] ahead of [2], though these have fewer hands.
        one = table_from(7, "one (all (a, b, c), d)")
        other = table_from(7, "one (b, d)")
        self.assertEqual(self.check(one, other, 4)[:2], ([0, 1], 1))
        one = table_from(7, "one (all (a, c, d), d, all (b, c))")
        other = table_from(7, "one (c, all (a, c, d))")
        self.assertEqual(self.check(one, other, 4)[:2], ([0, 1, 3], 0))
        one = table_from(7, "one (all (a, b, c, d), all (b, d))")
        other = table_from(7, "one (all (b, d), c)")
        self.assertEqual(self.check(one, other, 4)[:2], ([0, 1, 2], 1))

    def test_in_either_table(self):
        wide, narrow = table_from(11, "2 of (a, b, c, d)"), table_from(11, "3 of (a, b, c, d)")
        self.assertEqual(self.check(wide, narrow, 4)[:2], ([0, 1], 0))
        self.assertEqual(self.check(narrow, wide, 4)[:2], ([0, 1], 1))

    def test_only_the_set_of_all_hands(self):
        for many in range(1, 9):
            every = tuple((hand, unit_line(many, hand)) for hand in range(many))
            line = (1,) * many
            one = (13, many, tuple((h, l) for h, l in every[1:]) + ((0, line),))
            other = (13, many, every[1:])
            self.assertEqual(self.check(one, other, many)[:2], (list(range(many)), 0))
            self.assertEqual(self.check(other, one, many)[:2], (list(range(many)), 1))
            self.assertIsNone(self.check(one, one, many))

    def test_only_the_last_set(self):
        one, other = (5, 1, ((7, (1,)),)), (5, 1, ((7, (0,)),))
        self.assertEqual(self.check(one, other, 8)[0], [0, 1, 2, 3, 4, 5, 6, 7])
        self.assertIsNone(self.check((5, 2, ((7, (1, 0)),)), (7, 1, ((7, (2,)),)), 8))

    def test_by_unlike_p_and_of_unlike_widths(self):
        for text in ("2 of (a, b, c)", "all (a, one (b, c))", "one (all (a, b), all (c, d))",
                     "3 of (a, b, all (c, d), e)"):
            for p in (5, 7, 97):
                self.assertIsNone(self.check(table_from(p, text), table_from(11, text), 5))
        two = table_from(97, "2 of (a, b, c)")
        p, wide, rows = two
        self.assertIsNone(self.check(two, (p, 4, tuple((h, l + (0, 0)) for h, l in rows)), 3))
        self.check((2, 1, ((0, (1,)),)), table_from(97, "all (a, b, c, d, e, f, g, h)"), 8)

    def test_one_hand(self):
        opened, shut, none = (5, 1, ((0, (3,)),)), (5, 2, ((0, (1, 1)),)), (7, 3, ())
        for one in (opened, shut, none):
            for other in (opened, shut, none):
                self.check(one, other, 1)
        self.assertEqual(alike(opened, shut, 1), ([0], 0, [2], (1, 4)))
        self.assertIsNone(alike(shut, none, 1))

    def test_no_rows(self):
        for many in range(1, 9):
            self.assertIsNone(alike((7, 3, ()), (5, 1, ()), many))
        two = table_from(11, "2 of (a, b, c)")
        self.assertEqual(self.check(two, (7, 3, ()), 3)[3], (1, 0, 0))
        self.assertEqual(self.check((7, 3, ()), two, 8)[:2], ([0, 1], 1))

    def test_eight_hands(self):
        one = table_from(11, "4 of (a, b, c, d, e, f, g, h)")
        self.assertIsNone(self.check(one, table_from(97, "4 of (h, g, f, e, d, c, b, a)"), 8))
        self.assertEqual(self.check(one, table_from(11, "5 of (a, b, c, d, e, f, g, h)"), 8)[:2],
                         ([0, 1, 2, 3], 0))
        self.check(some_table(3, 2, 6, 20, 8), some_table(4, 3, 5, 20, 8), 8)

    def test_chance_tables(self):
        found = []
        for seed in range(200):
            many = 1 + seed % 5
            one = some_table(seed, (2, 3, 5, 97)[seed % 4], 1 + seed % 4, seed % 9, many)
            other = some_table(seed + 999, (2, 3, 97)[seed % 3], 1 + seed % 3, seed % 7, many)
            found.append(self.check(one, other, many))
        self.assertEqual({answer and answer[1] for answer in found}, {None, 0, 1})

    def test_tables_that_are_almost_alike(self):
        chance = random.Random(8)
        found = []
        for seed in range(200):
            p = (2, 3, 5, 97)[seed % 4]
            table = some_table(seed, p, 1 + seed % 4, 3 + seed % 7, 4)
            found.append(self.check(table, spoilt_table(chance, table), 4))
        self.assertEqual({answer and answer[1] for answer in found}, {None, 0, 1})

    def test_wide_tables(self):
        for seed in range(4):
            self.check(some_table(seed, PRIMES[4 * seed + 4], 12, 24, 5),
                       some_table(seed + 50, PRIMES[5 * seed], 11, 24, 5), 5)

    def test_more_hands_than_have_rows(self):
        self.assertEqual(alike((5, 1, ((1, (1,)),)), (5, 1, ()), 8)[:2], ([0, 1], 0))

    def test_numbers_somewhat_beyond(self):
        self.assertIsNone(alike((7, 1, ()), (7, 1, ()), 0))
        one, other = (5, 1, ((9, (1,)),)), (5, 1, ((8, (1,)),))
        self.assertEqual(alike(one, other, 10)[:2], (list(range(9)), 1))
        self.assertEqual(alike((7, 0, ()), (7, 2, ()), 2), ([], 0, [], (1, 0)))


class Idle(unittest.TestCase):
    def check(self, table, many):
        answer = idle(table, many)
        self.assertIs(type(answer), list)
        self.assertEqual([type(hand) for hand in answer], [int] * len(answer))
        self.assertEqual(answer, idle_plainly(table, many))
        return answer

    def test_told_ones(self):
        for text, many, hands in (
                ("2 of (a, b, c)", 3, []),
                ("2 of (a, b, c)", 5, [3, 4]),
                ("one (a, all (a, b))", 2, [1]),
                ("all (b, one (b, a, d))", 4, [0, 2, 3]),
                ("one (all (a, b), all (a, b, c), all (a, d))", 4, [2]),
                ("h", 8, [0, 1, 2, 3, 4, 5, 6])):
            with self.subTest(text):
                self.assertEqual(self.check(table_from(7, text), many), hands)

    def test_none_is(self):
        self.assertEqual(idle((5, 1, ((0, (1,)),)), 1), [])
        every = table_from(11, "4 of (a, b, c, d, e, f, g, h)")
        self.assertEqual(self.check(every, 8), [])

    def test_all_are(self):
        for many in range(1, 9):
            self.assertEqual(idle((7, 3, ()), many), list(range(many)))
            self.assertEqual(idle((7, 2, ((0, (1, 4)),)), many), list(range(many)))

    def test_a_hand_without_a_row(self):
        self.assertEqual(self.check((5, 2, ((0, (1, 1)), (2, (1, 2)))), 3), [1])

    def test_a_hand_with_a_row_of_noughts(self):
        self.assertEqual(self.check((5, 2, ((0, (1, 0)), (1, (0, 0)))), 2), [1])

    def test_a_hand_that_others_make_up_for_is_not_idle(self):
        self.assertEqual(self.check((5, 1, ((0, (1,)), (1, (2,)))), 2), [])

    def test_chance_tables(self):
        found = []
        for seed in range(200):
            many = 1 + seed % 5
            table = some_table(seed, (2, 3, 5, 97)[seed % 4], 1 + seed % 4, seed % 9, many)
            found.append(len(self.check(table, many)))
        self.assertTrue({0, 1, 2, 3, 4, 5} <= set(found))

    def test_somewhat_beyond(self):
        self.assertEqual(idle((5, 1, ((9, (1,)),)), 10), list(range(9)))
        self.assertEqual(idle((5, 1, ()), 0), [])


class Trimmed(unittest.TestCase):
    def check(self, table, many):
        answer = trimmed(table, many)
        self.assertTrue(is_table(answer))
        left_out = idle_plainly(table, many)
        rows = tuple(row for row in table[2] if row[0] not in left_out)
        self.assertEqual(answer, (table[0], table[1], rows))
        for hands in all_sets(many):
            self.assertEqual(opens_plainly(answer, hands), opens_plainly(table, hands))
        return answer

    def test_told_ones(self):
        table = (5, 2, ((1, (0, 1)), (0, (1, 0)), (1, (1, 1)), (0, (2, 0))))
        self.assertEqual(self.check(table, 2), table)
        table = (5, 2, ((1, (0, 1)), (0, (1, 0)), (2, (0, 3)), (0, (2, 0))))
        self.assertEqual(self.check(table, 3), (5, 2, ((0, (1, 0)), (0, (2, 0)))))

    def test_no_hand_is_idle(self):
        two = table_from(11, "2 of (a, b, c)")
        self.assertEqual(self.check(two, 3), two)
        self.assertEqual(self.check(two, 8), two)

    def test_all_hands_are_idle(self):
        for many in range(1, 9):
            self.assertEqual(trimmed((7, 2, ((0, (1, 4)),)), many), (7, 2, ()))
            self.assertEqual(trimmed((7, 2, ()), many), (7, 2, ()))

    def test_rows_of_a_hand_in_a_least_set_stay_though_needless(self):
        table = (7, 2, ((0, (1, 0)), (0, (0, 0)), (0, (0, 5))))
        self.assertEqual(self.check(table, 1), table)

    def test_eight_hands(self):
        self.check(table_from(11, "one (all (a, h), all (a, b, h), c, all (c, d, e))"), 8)
        self.check(some_table(5, 2, 6, 20, 8), 8)

    def test_chance_tables(self):
        lost = 0
        for seed in range(200):
            many = 1 + seed % 5
            table = some_table(seed, (2, 3, 5, 97)[seed % 4], 1 + seed % 4, seed % 9, many)
            lost += len(table[2]) > len(self.check(table, many)[2]) > 0
        self.assertGreater(lost, 20)

    def test_tables_of_rules(self):
        chance = random.Random(4)
        for _ in range(40):
            table = table_of(13, some_rule(chance, 2, 6, 5))
            answer = self.check(table, 5)
            self.assertIsNone(alike(table, answer, 5))
            self.assertEqual(trimmed(answer, 5), answer)


class TheAskersOwn(unittest.TestCase):
    def test_what_is_handed_in_stays(self):
        one, other = table_from(7, "one (a, all (b, c))"), table_from(5, "one (a, all (a, b))")
        kept = copy.deepcopy((one, other))
        alike(one, other, 3)
        idle(other, 3)
        trimmed(other, 3)
        self.assertEqual((one, other), kept)

    def test_a_change_of_what_was_told_changes_nothing(self):
        one, other = table_from(7, "one (a, all (b, c))"), table_from(5, "one (a, all (a, b))")
        asked = [
            lambda: alike(one, other, 3)[0],
            lambda: alike(one, other, 3)[2],
            lambda: alike(other, one, 3)[0],
            lambda: alike(other, one, 3)[2],
            lambda: idle(other, 3),
        ]
        for ask in asked:
            first = ask()
            kept = list(first)
            first[0] = "spoilt"
            first.append(7)
            self.assertEqual(ask(), kept)
        self.assertEqual(trimmed(other, 3)[2], ((0, (1, 0)), (0, (1, 1))))

    def test_what_was_told_stays_when_more_is_asked(self):
        one, other = table_from(7, "one (a, all (b, c))"), table_from(5, "one (a, all (a, b))")
        first, second = alike(one, other, 3), idle(other, 3)
        kept = copy.deepcopy((first, second))
        alike(other, one, 3)
        idle(one, 3)
        trimmed(one, 3)
        self.assertEqual((first, second), kept)


if __name__ == "__main__":
    unittest.main()
