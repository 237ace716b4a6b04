import copy
import random
import unittest

from fewopen.anew import handed_on, renewed, seen_twice
from fewopen.errors import NoFit
from fewopen.lines import nought_sums
from fewopen.opening import opens, told
from fewopen.rules import read_rule
from fewopen.tables import parts, rows_of, table_of
from helper import (PRIMES, LinesCase, all_lines, all_sets, lines_of, opens_plainly, parts_plainly,
                    some_filling, some_numbers, some_table, sum_of_lines, unit_line)

THREE = (11, 2, ((0, (1, 1)), (1, (1, 2)), (2, (1, 3))))


def own_parts(table, hands, some):
    return [part for part, row in zip(some, table[2]) if row[0] in hands]


class Renewed(LinesCase):
    def check(self, table, filling, chances):
        p = table[0]
        answer = renewed(table, parts_plainly(table, filling), chances)
        self.assertIs(type(answer), list)
        self.assertEqual(len(answer), len(table[2]))
        self.is_by_p(p, answer)
        anew = filling[:1] + tuple((a + b) % p for a, b in zip(filling[1:], chances))
        self.assertEqual(answer, parts_plainly(table, anew))

    def test_told_ones(self):
        self.assertEqual(renewed(THREE, [8, 2, 7], [4]), [1, 10, 8])
        self.assertEqual(renewed(THREE, [8, 2, 7], [0]), [8, 2, 7])
        self.assertEqual(renewed((2, 3, ((0, (1, 1, 1)), (1, (0, 0, 1)))), [1, 0], [1, 1]), [1, 1])

    def test_all_small_fillings_and_chances(self):
        for seed in range(30):
            p, wide = ((2, 3), (3, 2), (5, 2))[seed % 3]
            table = some_table(seed, p, wide, seed % 5)
            for filling in all_lines(p, wide):
                for chances in all_lines(p, wide - 1):
                    self.check(table, filling, list(chances))

    def test_every_p_and_every_width(self):
        chance = random.Random(1)
        for seed in range(300):
            table = some_table(seed, PRIMES[seed % 25], 1 + seed % 12, seed % 25)
            chances = some_numbers(chance, table[0], table[1] - 1)
            self.check(table, some_filling(chance, table), chances)

    def test_a_width_of_1_has_no_chance_numbers(self):
        for p in (2, 97):
            table = (p, 1, ((0, (1,)), (3, (p - 1,)), (2, (0,))))
            for hidden in range(p):
                some = parts_plainly(table, (hidden,))
                self.assertEqual(renewed(table, some, []), some)

    def test_no_rows(self):
        self.assertEqual(renewed((7, 3, ()), [], [4, 5]), [])

    def test_parts_made_anew_open_alike(self):
        chance = random.Random(2)
        for text in ("3 of (a, b, c, d, e)", "2 of (a, all (b, c), one (d, a))", "one (a, b)"):
            table = table_of(97, read_rule(text))
            filling = some_filling(chance, table)
            some = parts(table, filling)
            for _ in range(5):
                some = renewed(table, some, some_numbers(chance, 97, table[1] - 1))
                for hands in all_sets(5):
                    word, multipliers = opens(table, hands)
                    if word == "open":
                        hidden = sum(m * part for m, part in
                                     zip(multipliers, own_parts(table, hands, some))) % 97
                        self.assertEqual(hidden, filling[0])

    def test_somewhat_beyond(self):
        self.assertEqual(renewed(THREE, [19, -9, 7], [15]), [1, 10, 8])
        self.assertEqual(renewed((7, 13, ((10, (1,) * 13),)), [3], [1] * 12), [1])


class SeenTwice(LinesCase):
    def check(self, table, ones, others):
        p, wide = table[:2]
        answer = seen_twice(table, ones, others)
        self.assertIs(type(answer), tuple)
        self.assertEqual(len(answer), 3)
        if answer[0] == "open":
            self.assertIs(type(answer[1]), int)
            hands = (ones, others)[answer[1]]
            self.are_multipliers(p, answer[2], lines_of(table, hands), unit_line(wide))
            self.assertIs(opens_plainly(table, ones), answer[1] == 0)
        else:
            self.assertEqual(answer[0], "shut")
            self.is_turn(p, wide, answer[1], lines_of(table, ones))
            self.is_turn(p, wide, answer[2], lines_of(table, others))
            self.assertFalse(opens_plainly(table, ones))
            self.assertFalse(opens_plainly(table, others))
        return answer[:2] if answer[0] == "open" else answer[:1]

    def test_told_ones(self):
        self.assertEqual(seen_twice(THREE, [0, 2], [1]), ("open", 0, [7, 5]))
        self.assertEqual(seen_twice(THREE, [1], [0, 2]), ("open", 1, [7, 5]))
        self.assertEqual(seen_twice(THREE, [0, 2], [0, 1]), ("open", 0, [7, 5]))
        self.assertEqual(seen_twice(THREE, [0], [1]), ("shut", (1, 10), (1, 5)))
        self.assertEqual(seen_twice(THREE, [1], [0]), ("shut", (1, 5), (1, 10)))

    def test_two_that_would_open_only_together_are_shut(self):
        self.assertEqual(self.check(THREE, [0], [2]), ("shut",))
        self.assertEqual(self.check(THREE, [0, 2], []), ("open", 0))

    def test_the_set_of_no_hands(self):
        self.assertEqual(self.check(THREE, [], []), ("shut",))
        self.assertEqual(self.check(THREE, [], [0, 1]), ("open", 1))
        self.assertEqual(self.check(THREE, [0, 1], []), ("open", 0))
        self.assertEqual(self.check((2, 1, ()), [], []), ("shut",))

    def test_a_width_of_1(self):
        table = (5, 1, ((0, (2,)), (1, (0,))))
        self.assertEqual(seen_twice(table, [0], [1]), ("open", 0, [3]))
        self.assertEqual(seen_twice(table, [1], [0]), ("open", 1, [3]))
        self.assertEqual(seen_twice(table, [1], [1]), ("shut", (1,), (1,)))

    def test_small_tables_and_all_pairs_of_sets(self):
        words = {("open", 0): 0, ("open", 1): 0, ("shut",): 0}
        for seed in range(80):
            table = some_table(seed, (2, 3, 5)[seed % 3], 1 + seed % 4, seed % 7, 3)
            for ones in all_sets(3):
                for others in all_sets(3):
                    words[self.check(table, ones, others)] += 1
        self.assertGreater(min(words.values()), 300)

    def test_every_p_and_wide_tables(self):
        words = {("open", 0): 0, ("open", 1): 0, ("shut",): 0}
        chance = random.Random(3)
        for seed in range(200):
            table = some_table(seed, PRIMES[seed % 25], 1 + seed % 12, 1 + seed % 24, 6)
            ones, others = chance.sample(all_sets(6), 2)
            words[self.check(table, ones, others)] += 1
        self.assertGreater(min(words.values()), 10)

    def test_behind_what_two_shut_sets_saw_each_hidden_number_stands_equally_often(self):
        words = {("open", 0): 0, ("open", 1): 0, ("shut",): 0}
        for seed in range(24):
            p, wide = ((2, 2), (2, 3), (3, 2))[seed % 3]
            table = some_table(seed, p, wide, 2 + seed % 4, 2)
            for ones in all_sets(2):
                for others in all_sets(2):
                    words[self.check_counts(table, ones, others)] += 1
        self.assertGreater(min(words.values()), 5)

    def check_counts(self, table, ones, others):
        p, wide = table[:2]
        behind = {}
        for one in all_lines(p, wide):
            for chances in all_lines(p, wide - 1):
                seen = (tuple(own_parts(table, ones, parts(table, one))),
                        tuple(own_parts(table, others, parts(table, one[:1] + chances))))
                behind.setdefault(seen, []).append(one[0])
        word = self.check(table, ones, others)
        for hidden in behind.values():
            counts = {hidden.count(number) for number in range(p)}
            if word == ("shut",):
                self.assertEqual(len(counts), 1)
            else:
                self.assertEqual(len(set(hidden)), 1)
        return word

    def test_somewhat_beyond(self):
        table = some_table(3, 101, 13, 25, 11)
        self.check(table, list(range(11)), [10])
        self.check(table, [10], list(range(11)))


class HandedOnCase(LinesCase):
    def check(self, table, hands, multipliers, filling, other, chances):
        some = own_parts(table, hands, parts_plainly(table, filling))
        answer = handed_on(table, hands, multipliers, some, other, chances)
        p = table[0]
        self.assertIs(type(answer), list)
        self.assertEqual(len(answer), len(other[2]))
        self.is_by_p(p, answer)
        # The filling behind them: the fillings of the rows, each times its multiplier, added.
        fillings = [(part, *own) for part, own in zip(some, chances)]
        behind = sum_of_lines(p, other[1], multipliers, fillings)
        self.assertEqual(behind[0], filling[0])
        self.assertEqual(answer, parts_plainly(other, behind))


def some_chances(chance, table, hands, other):
    return [some_numbers(chance, other[0], other[1] - 1) for _ in rows_of(table, hands)]


class HandedOn(HandedOnCase):
    def test_told_ones(self):
        other = (11, 2, ((3, (1, 1)), (4, (1, 2))))
        # 7 times 9 and 10, the parts of (8, 1), and 5 times 2 and 8, those of (7, 6), are added.
        self.assertEqual(handed_on(THREE, [0, 2], [7, 5], [8, 7], other, [[1], [6]]), [7, 0])
        # The hidden number behind 8 and 7 was 3, and so it is behind 7 and 0.
        self.assertEqual(told(THREE, [8, None, 7])[1], 3)
        self.assertEqual(told(other, [7, 0])[1], 3)

    def test_to_a_table_of_a_width_of_1(self):
        other = (11, 1, ((5, (1,)), (6, (2,)), (7, (0,))))
        self.assertEqual(handed_on(THREE, [0, 2], [7, 5], [8, 7], other, [[], []]), [3, 6, 0])

    def test_from_a_table_of_a_width_of_1(self):
        table = (5, 1, ((0, (2,)),))
        other = (5, 3, ((1, (1, 1, 1)), (2, (1, 2, 4))))
        self.assertEqual(handed_on(table, [0], [3], [4], other, [[1, 0]]), [0, 3])
        self.check(table, [0], [3], (2,), other, [[1, 0]])

    def test_to_the_same_table_and_to_one_without_rows(self):
        chances = [[4], [9]]
        self.check(THREE, [0, 1], [2, 10], (3, 5), THREE, chances)
        self.assertEqual(handed_on(THREE, [0, 1], [2, 10], [8, 2], (11, 2, ()), chances), [])

    def test_all_small_fillings(self):
        chance = random.Random(4)
        compared = 0
        for seed in range(60):
            p, wide = ((2, 3), (3, 2), (5, 2))[seed % 3]
            table = some_table(seed, p, wide, 1 + seed % 6, 3)
            other = some_table(seed + 1000, p, 1 + seed % 4, seed % 5, 3)
            for hands in all_sets(3):
                word, multipliers = opens(table, hands)
                if word == "shut":
                    continue
                for filling in all_lines(p, wide):
                    self.check(table, hands, multipliers, filling, other,
                               some_chances(chance, table, hands, other))
                    compared += 1
        self.assertGreater(compared, 500)

    def test_every_p_and_wide_tables(self):
        chance = random.Random(5)
        compared = 0
        for seed in range(300):
            p = PRIMES[seed % 25]
            table = some_table(seed, p, 1 + seed % 12, 1 + seed % 24)
            other = some_table(seed + 1000, p, 1 + chance.randrange(12), chance.randrange(25))
            hands = sorted(chance.sample(range(10), chance.randint(5, 10)))
            word, multipliers = opens(table, hands)
            if word == "open":
                self.check(table, hands, multipliers, some_filling(chance, table), other,
                           some_chances(chance, table, hands, other))
                compared += 1
        self.assertGreater(compared, 60)

    def test_handed_on_and_on(self):
        chance = random.Random(6)
        tables = [table_of(97, read_rule(text)) for text in (
            "2 of (a, b, c)", "all (d, one (e, f), g)", "a", "5 of (a, b, c, d, e, f, g, h, i, j)",
            "2 of (a, all (b, c), one (d, a))")]
        filling = some_filling(chance, tables[0])
        some = parts(tables[0], filling)
        for table, other in zip(tables, tables[1:] + tables[:1]):
            hands = list(range(10))
            multipliers = opens(table, hands)[1]
            chances = some_chances(chance, table, hands, other)
            some = handed_on(table, hands, multipliers, some, other, chances)
        for hands in ([0, 1], [0, 2], [1, 2]):
            multipliers = opens(tables[0], hands)[1]
            own = own_parts(tables[0], hands, some)
            self.assertEqual(sum(m * part for m, part in zip(multipliers, own)) % 97, filling[0])

    def test_rows_of_the_set_alone_are_used(self):
        table = (7, 2, ((4, (0, 1)), (0, (1, 1)), (2, (5, 5)), (0, (1, 0))))
        other = (7, 2, ((0, (1, 3)), (1, (2, 2))))
        for filling in all_lines(7, 2):
            self.check(table, [0], [0, 1], filling, other, [[3], [5]])
        self.check(table, [0, 4], [6, 1, 0], (5, 2), other, [[3], [5], [6]])


class OtherMultipliers(HandedOnCase):
    def test_other_ones_that_still_come_to_it_are_taken(self):
        other = (11, 3, ((3, (1, 1, 1)), (4, (1, 2, 4)), (5, (1, 3, 9))))
        ways = [[2, 10, 0], [7, 0, 5], [0, 3, 9], [3, 8, 1]]
        self.assertGreater(len([way for way in ways if way != opens(THREE, [0, 1, 2])[1]]), 2)
        for way in ways:
            for filling in ((0, 0), (3, 5), (10, 10), (7, 1)):
                self.check(THREE, [0, 1, 2], way, filling, other, [[1, 2], [3, 4], [5, 6]])

    def test_all_multipliers_of_small_tables(self):
        words = {"taken": 0, "refused": 0}
        for seed in range(60):
            p = (2, 3)[seed % 2]
            table = some_table(seed, p, 1 + seed % 3, seed % 6, 2)
            other = some_table(seed + 1000, p, 2, 3, 2)
            for hands in all_sets(2):
                lines = lines_of(table, hands)
                chances = [[1]] * len(lines)
                for line in all_lines(p, len(lines)):
                    multipliers = list(line)
                    if sum_of_lines(p, table[1], multipliers, lines) == unit_line(table[1]):
                        filling = tuple((k + seed) % p for k in range(table[1]))
                        self.check(table, hands, multipliers, filling, other, chances)
                        words["taken"] += 1
                        continue
                    with self.assertRaises(NoFit):
                        handed_on(table, hands, multipliers, [0] * len(lines), other, chances)
                    words["refused"] += 1
        self.assertGreater(min(words.values()), 100)

    def test_told_ones_with_nought_sums_put_to_them(self):
        chance = random.Random(7)
        taken = 0
        for seed in range(100):
            p = PRIMES[seed % 25]
            table = some_table(seed, p, 1 + seed % 5, 10, 4)
            other = some_table(seed + 1000, p, 1 + seed % 7, 9, 4)
            hands = [0, 1, 2, 3]
            word, multipliers = opens(table, hands)
            if word == "shut":
                continue
            for way in nought_sums(p, table[1], lines_of(table, hands)):
                multipliers = [(m + w) % p for m, w in zip(multipliers, way)]
                self.check(table, hands, multipliers, some_filling(chance, table), other,
                           some_chances(chance, table, hands, other))
                taken += 1
        self.assertGreater(taken, 100)


class Refused(unittest.TestCase):
    OTHER = (11, 2, ((3, (1, 1)), (4, (1, 2))))

    def refused(self, table, hands, multipliers, some, other, chances):
        with self.assertRaises(NoFit):
            handed_on(table, hands, multipliers, some, other, chances)

    def test_multipliers_that_do_not_come_to_it(self):
        for multipliers in ([7, 6], [0, 0], [5, 7], [6, 5], [10, 2], [1, 0], [8, 4], [3, 10]):
            self.refused(THREE, [0, 2], multipliers, [8, 7], self.OTHER, [[1], [6]])

    def test_a_multiple_of_the_line_is_not_enough(self):
        self.refused(THREE, [0, 2], [3, 10], [8, 7], self.OTHER, [[1], [6]])
        self.refused((5, 1, ((0, (2,)),)), [0], [1], [4], (5, 1, ()), [[]])

    def test_another_count_of_multipliers(self):
        for multipliers in ([], [7], [7, 5, 0], [7, 5, 4], [0, 7, 5]):
            self.refused(THREE, [0, 2], multipliers, [8, 7], self.OTHER, [[1], [6]])
        self.refused(THREE, [0, 1, 2], [2, 10], [8, 2, 7], self.OTHER, [[1], [6], [0]])

    def test_a_set_that_does_not_open(self):
        for multiplier in range(11):
            self.refused(THREE, [1], [multiplier], [2], self.OTHER, [[1]])
        self.refused(THREE, [], [], [], self.OTHER, [])
        self.refused(THREE, [7], [], [], self.OTHER, [])
        self.refused((11, 2, ()), [0], [], [], self.OTHER, [])

    def test_tables_by_unlike_p(self):
        for p in PRIMES:
            other = (p, 2, ((3, (1, 1)), (4, (1, 0))))
            if p == 11:
                self.assertEqual(
                    handed_on(THREE, [0, 2], [7, 5], [8, 7], other, [[1], [6]]), [7, 3])
                continue
            self.refused(THREE, [0, 2], [7, 5], [8, 7], other, [[1], [0]])
        # A row of 1 is opened by 1 by any p, so here nothing else is amiss.
        self.refused((2, 1, ((0, (1,)),)), [0], [1], [1], (3, 1, ((0, (1,)),)), [[]])
        self.refused((97, 1, ((0, (1,)),)), [0], [1], [1], (89, 1, ()), [[]])

    def test_both(self):
        self.refused(THREE, [0, 2], [0, 0], [8, 7], (13, 2, ((3, (1, 1)),)), [[1], [0]])

    def test_numbers_somewhat_beyond_are_taken_by_p(self):
        self.assertEqual(
            handed_on(THREE, [0, 2], [18, -6], [19, -4], self.OTHER, [[12], [-5]]), [7, 0])
        self.refused(THREE, [0, 2], [18, -5], [8, 7], self.OTHER, [[1], [6]])
        self.assertEqual(handed_on((7, 0, ()), [], [], [], (7, 2, ((0, (1, 1)),)), []), [0])


class TheAskersOwn(unittest.TestCase):
    OTHER = (11, 2, ((3, (1, 1)), (4, (1, 2))))

    def test_what_is_handed_in_stays(self):
        some, ones, others = [8, 2, 7], [0], [0, 2]
        multipliers, own, chances = [7, 5], [8, 7], [[1], [6]]
        kept = copy.deepcopy((THREE, self.OTHER, some, ones, others, multipliers, own, chances))
        renewed(THREE, some, [4])
        seen_twice(THREE, ones, others)
        seen_twice(THREE, ones, ones)
        handed_on(THREE, others, multipliers, own, self.OTHER, chances)
        with self.assertRaises(NoFit):
            handed_on(THREE, ones, multipliers, own, self.OTHER, chances)
        self.assertEqual(
            (THREE, self.OTHER, some, ones, others, multipliers, own, chances), kept)

    def test_a_change_of_what_was_told_changes_nothing(self):
        one = (5, 1, ((0, (1,)),))
        asked = [
            lambda: renewed(THREE, [8, 2, 7], [4]),
            lambda: renewed(one, [3], []),
            lambda: handed_on(THREE, [0, 2], [7, 5], [8, 7], self.OTHER, [[1], [6]]),
            lambda: seen_twice(THREE, [0, 2], [1])[2],
            lambda: seen_twice(THREE, [1], [0, 2])[2],
        ]
        for ask in asked:
            first = ask()
            kept = list(first)
            first[0] = "spoilt"
            first.append(7)
            self.assertEqual(ask(), kept)

    def test_what_was_told_is_not_what_was_handed_in(self):
        some = [3]
        answer = renewed((5, 1, ((0, (1,)),)), some, [])
        answer[0] = 4
        self.assertEqual(some, [3])
        some[0] = 2
        self.assertEqual(answer, [4])

    def test_what_is_changed_behind_the_call_is_asked_anew(self):
        some, chances = [8, 2, 7], [4]
        first = renewed(THREE, some, chances)
        chances[0] = 0
        self.assertEqual(renewed(THREE, some, chances), [8, 2, 7])
        self.assertEqual(first, [1, 10, 8])
        ones, others = [0, 2], [1]
        first = seen_twice(THREE, ones, others)
        ones.pop()
        self.assertEqual(seen_twice(THREE, ones, others)[0], "shut")
        self.assertEqual(first, ("open", 0, [7, 5]))
        lists = [[1], [6]]
        first = handed_on(THREE, [0, 2], [7, 5], [8, 7], self.OTHER, lists)
        lists[0][0] = 2
        self.assertNotEqual(handed_on(THREE, [0, 2], [7, 5], [8, 7], self.OTHER, lists), first)
        self.assertEqual(first, [7, 0])


if __name__ == "__main__":
    unittest.main()
