import copy
import random
import unittest

from fewopen.errors import TooMany
from fewopen.opening import opens, told
from fewopen.rules import fits, read_rule, turned_rule
from fewopen.tables import is_table, parts, table_of
from helper import (PRIMES, LinesCase, all_lines, all_sets, lines_of, opens_plainly, parts_plainly,
                    rank, some_rule, some_seen, some_table, square_sum, unit_line)

TWO = (11, 2, ((0, (1, 1)), (1, (1, 2))))


class OpeningCase(LinesCase):
    def check_opens(self, table, hands):
        p, wide = table[:2]
        answer = opens(table, hands)
        self.assertIs(type(answer), tuple)
        self.assertEqual(len(answer), 2)
        if answer[0] == "open":
            self.are_multipliers(p, answer[1], lines_of(table, hands), unit_line(wide))
        else:
            self.assertEqual(answer[0], "shut")
            self.is_turn(p, wide, answer[1], lines_of(table, hands))
        return answer[0]

    def check_told(self, table, seen):
        p, wide, rows = table
        answer = told(table, seen)
        self.assertIs(type(answer), tuple)
        lines = [row[1] for row, part in zip(rows, seen) if part is not None]
        numbers = [part for part in seen if part is not None]
        if answer[0] == "none":
            self.assertEqual(len(answer), 2)
            self.are_multipliers(p, answer[1], lines, (0,) * wide)
            self.assertEqual(square_sum(p, answer[1], numbers), 1)
        elif answer[0] == "one":
            self.assertEqual(len(answer), 3)
            self.is_by_p(p, [answer[1]])
            self.are_multipliers(p, answer[2], lines, unit_line(wide))
            self.assertEqual(square_sum(p, answer[2], numbers), answer[1])
        else:
            self.assertEqual((answer[0], len(answer)), ("any", 2))
            self.is_turn(p, wide, answer[1], lines)
        return answer


def hidden_numbers(table, seen):
    """Those of all fillings that fit, gone through one by one."""
    return {filling[0] for filling in all_lines(table[0], table[1])
            if all(part is None or part == own
                   for part, own in zip(seen, parts_plainly(table, filling)))}


def word_plainly(table, seen):
    hidden = hidden_numbers(table, seen)
    return {0: "none", 1: "one", table[0]: "any"}[len(hidden)]


class Opens(OpeningCase):
    def test_told_ones(self):
        self.assertEqual(opens(TWO, [0, 1]), ("open", [2, 10]))
        self.assertEqual(opens(TWO, [0]), ("shut", (1, 10)))
        self.assertEqual(opens(TWO, [1]), ("shut", (1, 5)))
        self.assertEqual(opens((5, 1, ((3, (2,)),)), [3]), ("open", [3]))

    def test_multipliers_are_one_for_each_row_of_the_set(self):
        table = (7, 2, ((4, (0, 1)), (0, (1, 1)), (4, (0, 3)), (2, (5, 5)), (0, (1, 0))))
        for hands, many in (([0], 2), ([0, 4], 4), ([0, 2, 4], 5), ([0, 1], 2)):
            self.assertEqual(self.check_opens(table, hands), "open")
            self.assertEqual(len(opens(table, hands)[1]), many)
        self.assertEqual(self.check_opens(table, [2]), "shut")
        self.assertEqual(self.check_opens(table, [4]), "shut")

    def test_small_tables_and_all_sets(self):
        seen = {"open": 0, "shut": 0}
        for seed in range(300):
            table = some_table(seed, (2, 3, 5)[seed % 3], 1 + seed % 4, seed % 7, 4)
            for hands in all_sets(4):
                word = self.check_opens(table, hands)
                self.assertEqual(word == "open", opens_plainly(table, hands))
                seen[word] += 1
        self.assertGreater(min(seen.values()), 500)

    def test_every_p_and_wide_tables(self):
        seen = {"open": 0, "shut": 0}
        for number, p in enumerate(PRIMES):
            for wide in (1, 2, 5, 12):
                for many in (1, wide, 24):
                    table = some_table(100 * number + wide, p, wide, many)
                    for hands in ([0, 1, 2], [0, 2, 4, 6, 8], list(range(9)), list(range(10))):
                        word = self.check_opens(table, hands)
                        self.assertEqual(word == "open", opens_plainly(table, hands))
                        seen[word] += 1
        self.assertGreater(min(seen.values()), 200)

    def test_the_set_of_no_hands_opens_nothing(self):
        for seed in range(60):
            table = some_table(seed, PRIMES[seed % 25], 1 + seed % 12, seed % 25)
            self.assertEqual(self.check_opens(table, []), "shut")
        self.assertEqual(opens((2, 1, ((0, (1,)),)), []), ("shut", (1,)))

    def test_the_set_of_no_hands_where_there_is_no_place(self):
        # Only there, beyond the bounds, is the line that is asked for a sum of no rows.
        self.assertEqual(opens((7, 0, ()), []), ("open", []))
        self.assertEqual(opens((7, 0, ((0, ()),)), []), ("open", []))

    def test_hands_that_have_no_row(self):
        self.assertEqual(self.check_opens(TWO, [2, 3, 9]), "shut")
        self.assertEqual(self.check_opens(TWO, [0, 1, 9]), "open")
        self.assertEqual(self.check_opens((7, 3, ()), list(range(10))), "shut")

    def test_a_table_that_no_set_opens(self):
        for table in ((5, 1, ((0, (0,)), (1, (0,)))), (5, 2, ((0, (0, 1)), (1, (0, 2)))),
                      (2, 3, ((0, (1, 1, 0)), (1, (0, 1, 1)))), (97, 12, ())):
            for hands in all_sets(3):
                self.assertEqual(self.check_opens(table, hands), "shut")

    def test_tables_somewhat_beyond(self):
        table = some_table(3, 101, 13, 25, 11)
        for hands in ([], [10], list(range(11))):
            word = self.check_opens(table, hands)
            self.assertEqual(word == "open", opens_plainly(table, hands))
        self.assertEqual(self.check_opens((7, 1, ((10, (8,)),)), [10]), "open")


class WhatOpeningMeans(OpeningCase):
    def test_the_parts_come_to_the_hidden_number_or_the_turn_leaves_them(self):
        for seed in range(60):
            table = some_table(seed, (2, 3, 5)[seed % 3], 1 + seed % 3, 1 + seed % 6, 3)
            for hands in all_sets(3):
                self.check_all_fillings(table, hands)

    def check_all_fillings(self, table, hands):
        p, wide = table[:2]
        word, told_line = opens(table, hands)
        own = [number for number, row in enumerate(table[2]) if row[0] in hands]
        for filling in all_lines(p, wide):
            seen = [parts(table, filling)[number] for number in own]
            if word == "open":
                self.assertEqual(square_sum(p, told_line, seen), filling[0])
                continue
            hidden = []
            for often in range(p):
                turned = tuple((a + often * b) % p for a, b in zip(filling, told_line))
                self.assertEqual([parts(table, turned)[number] for number in own], seen)
                hidden.append(turned[0])
            self.assertEqual(sorted(hidden), list(range(p)))

    def test_behind_what_a_shut_set_sees_each_hidden_number_stands_equally_often(self):
        for seed in range(60):
            table = some_table(seed, (2, 3)[seed % 2], 1 + seed % 3, 1 + seed % 6, 3)
            for hands in all_sets(3):
                behind = {}
                for filling in all_lines(table[0], table[1]):
                    seen = tuple(part for part, row in zip(parts(table, filling), table[2])
                                 if row[0] in hands)
                    behind.setdefault(seen, []).append(filling[0])
                for hidden in behind.values():
                    counts = {hidden.count(number) for number in range(table[0])}
                    if opens(table, hands)[0] == "shut":
                        self.assertEqual(len(counts), 1)
                    else:
                        self.assertEqual(len(set(hidden)), 1)

    def test_wide_fillings(self):
        chance = random.Random(8)
        for text in ("all (a, b, c, d, e, f, g, h, i, j)",
                     "5 of (a, b, c, all (d, e, f), one (g, h), all (i, j), 2 of (a, e, j))"):
            table = table_of(97, read_rule(text))
            for _ in range(30):
                filling = tuple(chance.randrange(97) for _ in range(table[1]))
                answer = opens(table, list(range(10)))
                self.assertEqual(answer[0], "open")
                self.assertEqual(square_sum(97, answer[1], parts(table, filling)), filling[0])


class TablesMadeOfRules(OpeningCase):
    def check_rule(self, p, rule, many):
        try:
            table = table_of(p, rule)
        except TooMany:
            return False
        self.assertIs(is_table(table), True)
        for hands in all_sets(many):
            self.assertEqual(self.check_opens(table, hands) == "open", fits(rule, hands))
        return True

    def test_a_set_opens_just_where_it_fits(self):
        chance = random.Random(12)
        made = sum(self.check_rule((2, 3, 5, 7, 11, 97)[number % 6], some_rule(chance, 4, 12, 5), 5)
                   for number in range(300))
        self.assertGreater(made, 150)

    def test_each_k_of_some_hands(self):
        for p in (3, 5, 7):
            for many in range(1, p):
                for k in range(1, many + 1):
                    rule = ("some", k, tuple(("hand", h) for h in range(many)))
                    self.assertTrue(self.check_rule(p, rule, many))
        for p in (2, 3):
            rule = ("some", 1, tuple(("hand", h) for h in range(6)))
            self.assertTrue(self.check_rule(p, rule, 6))

    def test_twelve_places(self):
        text = "one (all (a, b, c, d, e, f, a, b, c, d), all (b, d, e))"
        self.assertTrue(self.check_rule(11, read_rule(text), 6))

    def test_a_rule_turned_about_opens_for_just_the_sets_whose_others_do_not(self):
        chance = random.Random(13)
        compared = 0
        for _ in range(150):
            rule = some_rule(chance, 3, 8, 5)
            try:
                table = table_of(11, rule)
                turned = table_of(11, turned_rule(rule))
            except TooMany:
                continue
            compared += 1
            for hands in all_sets(5):
                others = [hand for hand in range(5) if hand not in hands]
                self.assertNotEqual(opens(turned, hands)[0], opens(table, others)[0])
        self.assertGreater(compared, 50)


class Told(OpeningCase):
    def test_told_ones(self):
        self.assertEqual(told(TWO, [8, 2]), ("one", 3, [2, 10]))
        self.assertEqual(told(TWO, [8, None]), ("any", (1, 10)))
        self.assertEqual(told(TWO, [None, 2]), ("any", (1, 5)))
        self.assertEqual(told((5, 1, ((0, (2,)), (1, (0,)))), [4, 0])[:2], ("one", 2))
        self.assertEqual(told((5, 1, ((0, (2,)), (1, (0,)))), [4, 3]), ("none", [0, 2]))
        self.assertEqual(told((5, 1, ((0, (2,)), (1, (0,)))), [None, 3]), ("none", [2]))
        self.assertEqual(told((5, 1, ((0, (2,)), (1, (0,)))), [None, 0]), ("any", (1,)))

    def test_nothing_seen(self):
        for seed in range(40):
            table = some_table(seed, PRIMES[seed % 25], 1 + seed % 12, seed % 25)
            self.assertEqual(self.check_told(table, [None] * len(table[2]))[0], "any")

    def test_no_rows(self):
        self.assertEqual(self.check_told((7, 3, ()), [])[0], "any")
        self.assertEqual(told((2, 1, ()), []), ("any", (1,)))

    def test_a_part_of_nought_is_seen(self):
        self.assertEqual(told(TWO, [0, 0]), ("one", 0, [2, 10]))
        self.assertEqual(told(TWO, [0, None])[0], "any")

    def test_all_that_may_be_seen_of_small_tables(self):
        words = {"none": 0, "one": 0, "any": 0}
        for seed in range(40):
            table = some_table(seed, (2, 3)[seed % 2], 1 + seed % 3, seed % 4)
            for line in all_lines(table[0] + 1, len(table[2])):
                seen = [None if number == table[0] else number for number in line]
                answer = self.check_told(table, seen)
                self.assertEqual(answer[0], word_plainly(table, seen))
                if answer[0] == "one":
                    self.assertEqual({answer[1]}, hidden_numbers(table, seen))
                words[answer[0]] += 1
        self.assertGreater(min(words.values()), 100)

    def test_all_seen_of_a_filling(self):
        chance = random.Random(14)
        for seed in range(150):
            table = some_table(seed, PRIMES[seed % 25], 1 + seed % 12, seed % 25)
            filling = tuple(chance.randrange(table[0]) for _ in range(table[1]))
            answer = self.check_told(table, parts_plainly(table, filling))
            opened = opens_plainly(table, list(range(10)))
            self.assertEqual(answer[0], "one" if opened else "any")
            if opened:
                self.assertEqual(answer[1], filling[0])

    def test_some_seen_and_some_spoilt(self):
        chance = random.Random(15)
        words = {"none": 0, "one": 0, "any": 0}
        for seed in range(600):
            table = some_table(seed, PRIMES[seed % 25], 1 + seed % 12, 1 + seed % 24)
            seen = some_seen(chance, table, chance.choice((0.3, 0.6, 0.9, 1)))
            answer = self.check_told(table, seen)
            rows = [(row[1], part) for row, part in zip(table[2], seen) if part is not None]
            lines = [line for line, part in rows]
            fit = rank(table[0], lines) == rank(table[0], [line + (part,) for line, part in rows])
            opened = rank(table[0], lines) == rank(table[0], lines + [unit_line(table[1])])
            self.assertEqual(answer[0], "none" if not fit else "one" if opened else "any")
            words[answer[0]] += 1
        self.assertGreater(min(words.values()), 60)

    def test_rows_that_no_filling_fits(self):
        alike = (7, 2, ((0, (1, 1)), (1, (1, 1)), (2, (3, 0))))
        self.assertEqual(self.check_told(alike, [3, 4, None])[0], "none")
        self.assertEqual(self.check_told(alike, [3, 4, 6])[0], "none")
        self.assertEqual(self.check_told(alike, [3, 3, None])[0], "any")
        self.assertEqual(self.check_told(alike, [3, 3, 6])[:2], ("one", 2))
        self.assertEqual(self.check_told(alike, [None, 3, 6])[:2], ("one", 2))

    def test_somewhat_beyond(self):
        chance = random.Random(16)
        table = some_table(17, 101, 13, 25, 11)
        for _ in range(10):
            self.check_told(table, some_seen(chance, table))
        self.assertEqual(told(TWO, [19, -9])[:2], ("one", 3))
        self.assertEqual(told((7, 0, ()), []), ("one", 0, []))


class TheAskersOwn(OpeningCase):
    SEEN = [3, None, 4, 6]
    TABLE = (7, 2, ((0, (1, 1)), (3, (2, 5)), (1, (1, 1)), (2, (3, 0))))

    def test_what_is_handed_in_stays(self):
        for seen in ([3, None, 4, 6], [3, None, 3, 6], [3, None, None, None]):
            hands = [0, 2]
            before = copy.deepcopy((self.TABLE, hands, seen))
            opens(self.TABLE, hands)
            opens(self.TABLE, [])
            told(self.TABLE, seen)
            self.assertEqual((self.TABLE, hands, seen), before)

    def test_a_change_of_what_was_told_changes_nothing(self):
        first = opens(self.TABLE, [0, 2])
        kept = copy.deepcopy(first)
        first[1].append("spoilt")
        first[1][0] = 5
        self.assertEqual(opens(self.TABLE, [0, 2]), kept)
        for seen, place in (([3, None, 4, 6], 1), ([3, None, 3, 6], 2)):
            first = told(self.TABLE, seen)
            kept = copy.deepcopy(first)
            first[place].clear()
            self.assertEqual(told(self.TABLE, seen), kept)

    def test_what_was_told_stays_as_it_was(self):
        hands, seen = [0, 2], list(self.SEEN)
        first, second = opens(self.TABLE, hands), told(self.TABLE, seen)
        kept = copy.deepcopy((first, second))
        hands.pop()
        seen[2] = 3
        self.assertEqual(opens(self.TABLE, hands)[0], "shut")
        self.assertEqual(told(self.TABLE, seen)[:2], ("one", 2))
        self.assertEqual((first, second), kept)


if __name__ == "__main__":
    unittest.main()
