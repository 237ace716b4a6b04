import copy
import random
import unittest

from fewopen.compare import alike
from fewopen.errors import NoFit, NoNumber, OpenError, TooMany
from fewopen.opening import opens
from fewopen.rules import fits, read_rule, turned_rule
from fewopen.sets import bars, open_sets
from fewopen.tables import is_table, table_of
from fewopen.turned import turned_table
from helper import (PRIMES, LinesCase, all_sets, lines_of, opens_plainly, some_lines, some_rule,
                    some_table, unit_line)


def table_from(p, text):
    return table_of(p, read_rule(text))


def opening_table(seed, p, wide, many, hands):
    """A chance table that all its hands open, or None after some tries."""
    for step in range(40):
        table = some_table(1000 * seed + step, p, wide, many, hands)
        if opens_plainly(table, range(10)):
            return table
    return None


class Turned(LinesCase):
    def check(self, table):
        answer = turned_table(table)
        self.assertTrue(is_table(answer), answer)
        self.assertEqual(answer[0], table[0])
        self.assertEqual([hand for hand, line in answer[2]], [hand for hand, line in table[2]])
        own = sorted({hand for hand, line in table[2]})
        for places in all_sets(len(own)):
            hands = [own[place] for place in places]
            others = [hand for hand in own if hand not in hands]
            opened = not opens_plainly(table, others)
            self.assertEqual(opens_plainly(answer, hands), opened)
            self.check_opens(answer, hands, opened)
        return answer

    def check_opens(self, table, hands, opened):
        found = opens(table, hands)
        if opened:
            self.assertEqual(found[0], "open")
            self.are_multipliers(table[0], found[1], lines_of(table, hands), unit_line(table[1]))
        else:
            self.assertEqual(found[0], "shut")
            self.is_turn(table[0], table[1], found[1], lines_of(table, hands))

    def test_told_ones(self):
        for text, turned in (("a", "a"), ("all (a, b)", "one (a, b)"),
                             ("one (a, b, c)", "all (a, b, c)"),
                             ("2 of (a, b, c)", "2 of (a, b, c)"),
                             ("2 of (a, b, c, d)", "3 of (a, b, c, d)"),
                             ("all (a, one (b, c))", "one (a, all (b, c))"),
                             ("2 of (a, all (b, c), one (d, a))", "2 of (a, one (b, c), all (d, a))")):
            with self.subTest(text):
                self.assertIsNone(alike(self.check(table_from(7, text)), table_from(7, turned), 4))

    def test_the_least_sets_are_those_that_bar(self):
        answer = self.check(table_from(7, "one (d, all (a, c), all (a, b))"))
        self.assertEqual(open_sets(answer, 4), ([[0, 3], [1, 2, 3]], [[0, 1, 2], [1, 3], [2, 3]]))

    def test_a_width_of_one(self):
        # Of this width: the first table, the one turned about, or both.
        self.assertEqual(self.check((7, 1, ((4, (3,)),))), (7, 1, ((4, (5,)),)))
        for many in range(1, 13):
            wide = self.check((5, 1, tuple((place % 10, (2,)) for place in range(many))))
            self.assertEqual(wide[1], many)
            narrow = self.check(wide)
            self.assertEqual(narrow[1], 1)
            self.assertEqual(narrow[2], tuple((place % 10, narrow[2][0][1]) for place in range(many)))
            self.assertNotEqual(narrow[2][0][1], (0,))
        self.check((2, 1, ((0, (0,)), (1, (1,)), (0, (1,)), (2, (0,)))))

    def test_lines_of_noughts(self):
        self.check((5, 2, ((0, (0, 0)), (1, (1, 0)), (2, (0, 0)))))
        self.check((5, 3, ((3, (1, 0, 0)), (3, (0, 0, 0)))))

    def test_twelve_rows(self):
        found = 0
        for seed in range(12):
            table = opening_table(seed, (2, 3, 97)[seed % 3], 1 + seed, 12, 5)
            if table:
                self.check(table)
                found += 1
        self.assertGreater(found, 6)
        rows = tuple((place % 6, unit_line(12, place)) for place in range(12))
        self.assertEqual(self.check((11, 12, rows))[1], 1)
        self.assertEqual(self.check((11, 1, tuple((h, (1,)) for h, l in rows)))[1], 12)

    def test_all_ten_hands(self):
        self.check(table_from(13, "6 of (a, b, c, d, e, f, g, h, i, j)"))
        self.check(table_from(97, "2 of (all (a, b, c), d, one (e, f), all (g, h, i, j))"))

    def test_chance_tables(self):
        found = 0
        for seed in range(250):
            p = (2, 3, 5, 7, 97)[seed % 5]
            table = opening_table(seed, p, 1 + seed % 6, 1 + seed % 11, 1 + seed % 6)
            if table:
                self.check(table)
                found += 1
        self.assertGreater(found, 150)

    def test_each_p(self):
        for p in PRIMES:
            self.check((p, 3, ((0, (1, 1, 0)), (1, (0, 1, 1)), (2, (0, 0, 1)), (1, (1, 0, 1)))))

    def test_rules_turned_about_open_alike(self):
        chance = random.Random(27)
        tried = 0
        for _ in range(120):
            rule = some_rule(chance, 3, 10, 6)
            table = table_of(13, rule)
            if len(table[2]) > 12:
                continue
            tried += 1
            answer = self.check(table)
            self.assertIsNone(alike(answer, table_of(17, turned_rule(rule)), 6))
            for hands in all_sets(6):
                self.assertEqual(opens_plainly(answer, hands), fits(turned_rule(rule), hands))
                self.assertEqual(opens_plainly(answer, hands), bars(table, 6, hands))
        self.assertGreater(tried, 80)

    def test_turned_about_twice_it_opens_as_at_first(self):
        for seed in range(60):
            table = opening_table(seed, (2, 3, 97)[seed % 3], 1 + seed % 5, 1 + seed % 9, 4)
            if table:
                self.assertIsNone(alike(turned_table(turned_table(table)), table, 4))

    def test_numbers_somewhat_beyond_are_taken_by_p(self):
        answer = turned_table((5, 2, ((0, (6, -4)), (1, (-4, 7)))))
        self.assertTrue(is_table(answer))
        self.assertIsNone(alike(answer, turned_table((5, 2, ((0, (1, 1)), (1, (1, 2))))), 2))


class Refused(unittest.TestCase):
    def refused(self, kind, table):
        with self.assertRaises(OpenError) as caught:
            turned_table(table)
        self.assertIs(type(caught.exception), kind)

    def test_thirteen_rows(self):
        for many in (13, 14, 24, 25):
            self.refused(TooMany, (5, 1, ((0, (1,)),) * many))
            lines = some_lines(many, 7, 5, many)
            self.refused(TooMany, (7, 5, tuple((k % 8, line) for k, line in enumerate(lines))))
        self.assertEqual(len(turned_table((5, 1, ((0, (1,)),) * 12))[2]), 12)

    def test_a_table_that_all_its_hands_do_not_open(self):
        for table in ((7, 1, ()), (7, 12, ()), (7, 1, ((0, (0,)),)), (7, 2, ((0, (1, 1)),)),
                      (7, 2, ((0, (0, 1)), (1, (0, 3)))), (2, 3, ((0, (1, 1, 0)), (1, (0, 1, 1)))),
                      (5, 2, ((0, (1, 1)),) * 12)):
            self.refused(NoFit, table)

    def test_thirteen_rows_that_do_not_open(self):
        self.refused(TooMany, (5, 2, ((0, (1, 1)),) * 13))
        self.refused(TooMany, (5, 2, ((0, (0, 0)),) * 24))

    def test_just_where_they_do_not_open(self):
        met = {True: 0, False: 0}
        for seed in range(150):
            table = some_table(seed, (2, 3, 97)[seed % 3], 1 + seed % 4, seed % 7, 4)
            opened = opens_plainly(table, range(10))
            met[opened] += 1
            if opened:
                turned_table(table)
            else:
                self.refused(NoFit, table)
        self.assertGreater(min(met.values()), 20)

    def test_the_refusals_are_none_of_one_another(self):
        self.assertFalse(issubclass(TooMany, NoFit) or issubclass(NoFit, (TooMany, NoNumber)))


class TheAskersOwn(unittest.TestCase):
    def test_what_is_handed_in_stays(self):
        table, shut = table_from(7, "one (a, all (b, c))"), (7, 2, ((0, (1, 1)),))
        kept = copy.deepcopy((table, shut))
        first = turned_table(table)
        with self.assertRaises(NoFit):
            turned_table(shut)
        self.assertEqual((table, shut), kept)
        self.assertEqual(turned_table(table), first)


if __name__ == "__main__":
    unittest.main()
