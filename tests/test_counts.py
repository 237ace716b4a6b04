import copy
import random
import unittest

from fewopen.counts import how_often
from fewopen.opening import opens, told
from fewopen.rules import read_rule
from fewopen.tables import parts, table_of
from helper import (PRIMES, all_lines, all_sets, parts_plainly, rank, some_seen, some_table,
                    unit_line)

TWO = (11, 2, ((0, (1, 1)), (1, (1, 2))))


def counted(table, seen):
    """All fillings gone through one by one."""
    counts = [0] * table[0]
    for filling in all_lines(table[0], table[1]):
        if all(part is None or part == own
               for part, own in zip(seen, parts_plainly(table, filling))):
            counts[filling[0]] += 1
    return counts


def form_of(counts):
    if not any(counts):
        return "none"
    return "one" if sorted(counts)[-2] == 0 else "any"


class HowOften(unittest.TestCase):
    def check(self, table, seen):
        answer = how_often(table, seen)
        self.assertIs(type(answer), list)
        self.assertEqual([type(count) for count in answer], [int] * table[0])
        self.assertEqual(answer, counted(table, seen))
        self.assertEqual(form_of(answer), told(table, seen)[0])
        return form_of(answer)

    def test_told_ones(self):
        self.assertEqual(how_often(TWO, [8, 2]), [0, 0, 0, 1] + [0] * 7)
        self.assertEqual(how_often(TWO, [8, None]), [1] * 11)
        self.assertEqual(how_often(TWO, [None, None]), [11] * 11)
        self.assertEqual(how_often((3, 3, ((0, (2, 0, 0)),)), [1]), [0, 0, 9])
        self.assertEqual(how_often((3, 1, ((0, (0,)),)), [1]), [0, 0, 0])
        self.assertEqual(how_often((3, 1, ((0, (0,)),)), [0]), [1, 1, 1])

    def test_all_that_may_be_seen_of_small_tables(self):
        forms = {"none": 0, "one": 0, "any": 0}
        for seed in range(40):
            table = some_table(seed, (2, 3)[seed % 2], 1 + seed % 3, seed % 4)
            for line in all_lines(table[0] + 1, len(table[2])):
                seen = [None if number == table[0] else number for number in line]
                forms[self.check(table, seen)] += 1
        self.assertGreater(min(forms.values()), 100)

    def test_tables_with_more_rows(self):
        chance = random.Random(31)
        forms = {"none": 0, "one": 0, "any": 0}
        for seed in range(250):
            p, wide = ((2, 5), (2, 3), (3, 4), (5, 3), (7, 2), (97, 1))[seed % 6]
            table = some_table(seed, p, wide, seed % 10)
            forms[self.check(table, some_seen(chance, table, chance.choice((0.4, 0.7, 1))))] += 1
        self.assertGreater(min(forms.values()), 20)

    def test_nothing_seen_and_no_rows(self):
        for p in (2, 3, 5):
            for wide in (1, 2, 3):
                for many in (0, 1, 4):
                    table = some_table(p + wide, p, wide, many)
                    self.assertEqual(how_often(table, [None] * many), [p ** (wide - 1)] * p)

    def test_all_seen(self):
        table = table_of(5, read_rule("2 of (a, b, c)"))
        for filling in all_lines(5, 2):
            expected = [int(number == filling[0]) for number in range(5)]
            self.assertEqual(how_often(table, parts(table, filling)), expected)
        self.assertEqual(how_often(table, [1, 2, 4]), [0] * 5)

    def test_a_shut_set_sees_each_hidden_number_equally_often(self):
        table = table_of(5, read_rule("2 of (a, all (b, c), one (d, a))"))
        for filling in ((0, 0, 0), (3, 1, 4), (4, 4, 4)):
            for hands in all_sets(4):
                seen = [part if row[0] in hands else None
                        for part, row in zip(parts(table, filling), table[2])]
                self.check(table, seen)
                opened = opens(table, hands)[0] == "open"
                self.assertEqual(form_of(how_often(table, seen)), "one" if opened else "any")

    def test_width_twelve_by_97(self):
        table = table_of(97, read_rule("one (all (a, b, c, d, e, f, g, h, i, j), all (a, b, c))"))
        self.assertEqual(table[1], 12)
        nothing = [None] * 13
        self.assertEqual(how_often(table, nothing), [97 ** 11] * 97)
        self.assertEqual(how_often(table, [5] + nothing[1:]), [97 ** 10] * 97)
        self.assertEqual(how_often(table, [5] * 9 + nothing[:4]), [97 ** 2] * 97)
        expected = [0] * 97
        expected[5] = 97 ** 2
        self.assertEqual(how_often(table, [5] * 10 + nothing[:3]), expected)
        self.assertEqual(how_often(table, [5] * 10 + [6] * 3), [0] * 97)
        expected[5] = 1
        self.assertEqual(how_often(table, [5] * 13), expected)

    def test_wide_tables_of_every_p(self):
        chance = random.Random(32)
        for seed in range(200):
            p, wide = PRIMES[seed % 25], 9 + seed % 5
            table = some_table(seed, p, wide, seed % 26)
            seen = some_seen(chance, table, chance.choice((0.3, 0.6, 1)))
            rows = [(row[1], part) for row, part in zip(table[2], seen) if part is not None]
            lines = [line for line, part in rows]
            bound = rank(p, lines)
            fit = bound == rank(p, [line + (part,) for line, part in rows])
            opened = bound == rank(p, lines + [unit_line(wide)])
            answer = how_often(table, seen)
            self.assertEqual(len(answer), p)
            self.assertEqual(sum(answer), p ** (wide - bound) if fit else 0)
            self.assertEqual(len(set(answer)), 2 if fit and opened else 1)
            if fit and opened:
                self.assertEqual(answer[told(table, seen)[1]], sum(answer))

    def test_somewhat_beyond(self):
        self.assertEqual(how_often(TWO, [19, -9]), how_often(TWO, [8, 2]))
        self.assertEqual(how_often((7, 13, ((10, (1,) * 13),) * 25), [4] * 25), [7 ** 11] * 7)


class TheAskersOwn(unittest.TestCase):
    def test_what_is_handed_in_stays(self):
        for seen in ([8, 2], [8, None], [None, None]):
            before = copy.deepcopy((TWO, seen))
            how_often(TWO, seen)
            self.assertEqual((TWO, seen), before)

    def test_a_change_of_what_was_told_changes_nothing(self):
        for seen in ([8, 2], [8, None], [None, None]):
            first = how_often(TWO, seen)
            kept = list(first)
            first[0] = "spoilt"
            first.append(7)
            self.assertEqual(how_often(TWO, seen), kept)

    def test_seen_numbers_changed_behind_the_call_are_asked_anew(self):
        seen = [8, None]
        first = how_often(TWO, seen)
        seen[1] = 2
        self.assertEqual(how_often(TWO, seen), [0, 0, 0, 1] + [0] * 7)
        self.assertEqual(first, [1] * 11)


if __name__ == "__main__":
    unittest.main()
