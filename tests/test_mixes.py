import copy
import itertools
import random
import unittest

from fewopen.errors import TooMany
from fewopen.mixes import added, products, scaled
from fewopen.rules import read_rule
from fewopen.tables import is_table, parts, table_of
from helper import (PRIMES, LinesCase, all_lines, all_sets, opens_plainly, parts_plainly, rank,
                    some_filling, some_rule, some_table, unit_line)

THREE = (11, 2, ((0, (1, 1)), (1, (1, 2)), (2, (1, 3))))


def line_sum(p, one, other):
    return tuple((a + b) % p for a, b in zip(one, other))


def pairs_plainly(table, hands):
    """Of rows of one hand of the set."""
    rows = list(enumerate(table[2]))
    return [(i, j) for i, one in rows for j, other in rows
            if one[0] == other[0] and one[0] in hands]


def crossed_plainly(one, other):
    return tuple(a * b for a in one for b in other)


def opens_products_plainly(table, hands):
    lines = [crossed_plainly(table[2][i][1], table[2][j][1])
             for i, j in pairs_plainly(table, hands)]
    wished = unit_line(table[1] ** 2)
    return rank(table[0], lines) == rank(table[0], lines + [wished])


def product_told(table, told, one, other):
    return sum(m * one[i] * other[j] for i, j, m in told) % table[0]


class AddedAndScaled(LinesCase):
    def test_told_ones(self):
        self.assertEqual(added(11, [8, 2, 7], [5, 9, 0]), [2, 0, 7])
        self.assertEqual(added(2, [1, 0, 1], [1, 1, 0]), [0, 1, 1])
        self.assertEqual(scaled(11, [8, 2, 7], 3), [2, 6, 10])
        self.assertEqual(scaled(11, [8, 2, 7], 1), [8, 2, 7])
        self.assertEqual(scaled(97, [96, 0, 1], 96), [1, 0, 96])
        self.assertEqual(scaled(11, [8, 2, 7], 0), [0, 0, 0])

    def test_none(self):
        self.assertEqual(added(11, [], []), [])
        self.assertEqual(scaled(11, [], 5), [])

    def test_each_number_by_small_p(self):
        for p in (2, 3, 7):
            for one in range(p):
                for other in range(p):
                    self.assertEqual(added(p, [one, other], [other, 0]), [(one + other) % p, other])
                    self.assertEqual(scaled(p, [one, 1], other), [one * other % p, other])

    def test_parts_of_the_fillings_added_and_times_a_number(self):
        chance = random.Random(1)
        for seed in range(150):
            table = some_table(seed, PRIMES[seed % 25], 1 + seed % 12, seed % 25)
            p = table[0]
            one, other = some_filling(chance, table), some_filling(chance, table)
            mixed = added(p, parts(table, one), parts(table, other))
            self.assertIs(type(mixed), list)
            self.is_by_p(p, mixed)
            self.assertEqual(mixed, parts_plainly(table, line_sum(p, one, other)))
            for number in (0, 1, p - 1, chance.randrange(p)):
                times = scaled(p, parts(table, one), number)
                self.assertIs(type(times), list)
                self.is_by_p(p, times)
                filling = tuple(number * entry % p for entry in one)
                self.assertEqual(times, parts_plainly(table, filling))

    def test_somewhat_beyond(self):
        self.assertEqual(added(11, [19, -9], [5, 9]), [2, 0])
        self.assertEqual(scaled(11, [8, 2], 14), [2, 6])
        self.assertEqual(scaled(11, [8, 2], -1), [3, 9])
        self.assertEqual(scaled(11, [8, 2], 11 * 10 ** 57 + 3), [2, 6])
        self.assertEqual(added(11, [1] * 30, [10] * 30), [0] * 30)

    def test_what_is_handed_in_stays_and_what_is_told_is_the_askers_own(self):
        one, other = [8, 2, 7], [5, 9, 0]
        first = added(11, one, other)
        second = scaled(11, one, 1)
        third = added(11, one, [0, 0, 0])
        self.assertEqual((one, other), ([8, 2, 7], [5, 9, 0]))
        for told in (first, second, third):
            told[0] = "spoilt"
            told.append(4)
        self.assertEqual((one, other), ([8, 2, 7], [5, 9, 0]))
        self.assertEqual(added(11, one, other), [2, 0, 7])
        self.assertEqual(scaled(11, one, 1), one)
        self.assertEqual(added(11, one, [0, 0, 0]), one)


class ProductsCase(LinesCase):
    def are_products(self, table, hands, told):
        self.assertIs(type(told), list)
        allowed = pairs_plainly(table, hands)
        for triple in told:
            self.assertIs(type(triple), tuple)
            self.assertEqual([type(number) for number in triple], [int] * 3)
            self.is_by_p(table[0], triple[2:])
            self.assertIn(triple[:2], allowed)
        pairs = [triple[:2] for triple in told]
        self.assertEqual(len(pairs), len(set(pairs)))
        # What holds for fillings with one 1 holds for all, for both sides are sums of these.
        units = [unit_line(table[1], place) for place in range(table[1])]
        for one in units:
            for other in units:
                answer = product_told(table, told, parts_plainly(table, one),
                                      parts_plainly(table, other))
                self.assertEqual(answer, one[0] * other[0])

    def is_form(self, table, hands, form):
        p, wide, rows = table
        self.assertIs(type(form), tuple)
        self.assertEqual(len(form), wide)
        for line in form:
            self.assertIs(type(line), tuple)
            self.assertEqual(len(line), wide)
            self.is_by_p(p, line)
        self.assertEqual(form[0][0], 1)
        for i, j in pairs_plainly(table, hands):
            self.assertEqual(sum(rows[i][1][a] * form[a][b] * rows[j][1][b]
                                 for a in range(wide) for b in range(wide)) % p, 0)

    def check(self, table, hands):
        answer = products(table, hands)
        self.assertIs(type(answer), tuple)
        self.assertEqual(len(answer), 2)
        if answer[0] == "open":
            self.are_products(table, hands, answer[1])
        else:
            self.assertEqual(answer[0], "shut")
            self.is_form(table, hands, answer[1])
        return answer[0]


class Products(ProductsCase):
    def test_told_ones(self):
        answer = products(THREE, [0, 1, 2])
        self.assertEqual((answer[0], sorted(answer[1])),
                         ("open", [(0, 0, 3), (1, 1, 8), (2, 2, 1)]))
        self.assertEqual(products((5, 1, ((3, (2,)),)), [3]), ("open", [(0, 0, 4)]))
        for hands in ([0, 1], [0, 2], [1, 2], [0], []):
            self.assertEqual(self.check(THREE, hands), "shut")

    def test_the_hand_that_opens_by_itself(self):
        table = (7, 2, ((1, (1, 1)), (0, (1, 2)), (1, (1, 3))))
        self.assertEqual(self.check(table, [1]), "open")
        self.assertEqual(self.check(table, [0]), "shut")
        self.assertEqual({triple[:2] for triple in products(table, [1])[1]} - {
            (0, 0), (0, 2), (2, 0), (2, 2)}, set())

    def test_rows_of_two_hands_are_no_pair(self):
        # The hands' parts come to the hidden number, but none has both to multiply.
        table = (7, 2, ((0, (1, 1)), (1, (0, 1))))
        self.assertTrue(opens_plainly(table, [0, 1]))
        self.assertEqual(self.check(table, [0, 1]), "shut")
        self.assertEqual(self.check((7, 2, ((0, (1, 1)), (0, (0, 1)))), [0]), "open")

    def test_hands_with_two_rows_each(self):
        table = (5, 3, ((0, (1, 1, 0)), (0, (0, 1, 1)), (1, (0, 1, 0)), (1, (1, 0, 1)),
                        (2, (1, 1, 1)), (2, (0, 0, 1))))
        for hands in all_sets(3):
            self.assertEqual(self.check(table, hands) == "open",
                             opens_products_plainly(table, hands))

    def test_small_tables_and_all_sets(self):
        words = {"open": 0, "shut": 0}
        for seed in range(250):
            table = some_table(seed, (2, 3, 5)[seed % 3], 1 + seed % 4, seed % 9, 3)
            for hands in all_sets(3):
                word = self.check(table, hands)
                self.assertEqual(word == "open", opens_products_plainly(table, hands))
                words[word] += 1
        self.assertGreater(min(words.values()), 200)

    def test_every_p(self):
        words = {"open": 0, "shut": 0}
        for number, p in enumerate(PRIMES):
            for wide in range(1, 6):
                table = some_table(50 * number + wide, p, wide, 12, 4)
                for hands in ([0], [1, 2], [0, 1, 2, 3]):
                    word = self.check(table, hands)
                    self.assertEqual(word == "open", opens_products_plainly(table, hands))
                    words[word] += 1
        self.assertGreater(min(words.values()), 50)

    def test_any_two_fillings(self):
        compared = 0
        for seed in range(60):
            p, wide = ((2, 3), (3, 2), (5, 1), (2, 2), (3, 3))[seed % 5]
            table = some_table(seed, p, wide, 1 + seed % 8, 2)
            word, told = products(table, [0, 1])
            if word == "shut":
                continue
            for one, other in itertools.product(all_lines(p, wide), repeat=2):
                answer = product_told(table, told, parts(table, one), parts(table, other))
                self.assertEqual(answer, one[0] * other[0] % p)
                compared += 1
        self.assertGreater(compared, 1000)

    def test_any_two_fillings_by_a_great_p(self):
        chance = random.Random(2)
        for text in ("3 of (a, b, c, d, e, f)", "5 of (a, b, c, d, e, f, g, h, i)",
                     "one (a, all (b, c))", "one (all (a, b), all (a, c), all (b, c), d)"):
            table = table_of(97, read_rule(text))
            word, told = products(table, list(range(10)))
            self.assertEqual(word, "open")
            for _ in range(40):
                one, other = some_filling(chance, table), some_filling(chance, table)
                answer = product_told(table, told, parts(table, one), parts(table, other))
                self.assertEqual(answer, one[0] * other[0] % 97)

    def test_rules_at_random(self):
        chance = random.Random(3)
        words = {"open": 0, "shut": 0}
        for _ in range(150):
            try:
                table = table_of(11, some_rule(chance, 3, 8, 4))
            except TooMany:
                continue
            if table[1] > 5:
                continue
            for hands in all_sets(4):
                word = self.check(table, hands)
                self.assertEqual(word == "open", opens_products_plainly(table, hands))
                words[word] += 1
        self.assertGreater(min(words.values()), 100)

    def test_whoever_tells_products_tells_the_hidden_number(self):
        for seed in range(100):
            table = some_table(seed, (2, 3, 7)[seed % 3], 1 + seed % 5, seed % 12, 3)
            for hands in all_sets(3):
                if products(table, hands)[0] == "open":
                    self.assertTrue(opens_plainly(table, hands))


class Edges(ProductsCase):
    def test_the_set_of_no_hands(self):
        for seed in range(40):
            table = some_table(seed, PRIMES[seed % 25], 1 + seed % 5, seed % 25)
            self.assertEqual(self.check(table, []), "shut")
        self.assertEqual(products((2, 1, ()), []), ("shut", ((1,),)))

    def test_hands_that_have_no_row(self):
        self.assertEqual(self.check(THREE, [3, 9]), "shut")
        self.assertEqual(self.check(THREE, [0, 1, 2, 9]), "open")
        self.assertEqual(self.check((7, 3, ()), list(range(10))), "shut")

    def test_a_width_of_1(self):
        for p in (2, 3, 97):
            self.assertEqual(self.check((p, 1, ((0, (p - 1,)),)), [0]), "open")
            self.assertEqual(self.check((p, 1, ((0, (0,)), (0, (0,)))), [0]), "shut")

    def test_a_width_of_5_and_of_6(self):
        for p in (2, 7, 97):
            for many in (0, 1, 12):
                for hands in ([], [0], list(range(10))):
                    self.check(some_table(many, p, 5, many), hands)
                    with self.assertRaises(TooMany):
                        products(some_table(many, p, 6, many), hands)
        self.assertEqual(self.check((7, 5, ((0, unit_line(5)),)), [0]), "open")
        with self.assertRaises(TooMany):
            products((7, 6, ((0, unit_line(6)),)), [0])
        with self.assertRaises(TooMany):
            products((7, 12, ()), [])

    def test_twelve_rows_and_thirteen(self):
        for p, wide in ((2, 1), (11, 3), (97, 5)):
            rows = some_table(p, p, wide, 13, 1)[2]
            self.check((p, wide, rows[:12]), [0])
            with self.assertRaises(TooMany):
                products((p, wide, rows), [0])

    def test_only_the_rows_of_the_set_count(self):
        rows = tuple((number % 2, (1, number % 7)) for number in range(24))
        self.assertIs(is_table((7, 2, rows)), True)
        self.assertEqual(self.check((7, 2, rows), [0]), "open")
        self.assertEqual(self.check((7, 2, rows), [1]), "open")
        with self.assertRaises(TooMany):
            products((7, 2, rows), [0, 1])
        rows = rows[:13]
        with self.assertRaises(TooMany):
            products((7, 2, rows), [0, 1])
        self.assertEqual(self.check((7, 2, rows[:12]), [0, 1]), "open")

    def test_twelve_rows_of_one_hand(self):
        for p in (2, 97):
            for seed in range(6):
                table = some_table(seed, p, 5, 12, 1)
                self.assertEqual(self.check(table, [0]) == "open",
                                 opens_products_plainly(table, [0]))

    def test_pairs_that_are_needed_both_ways_about(self):
        # The line asked for is the sum of the rows, so (i, j) and (j, i) come with it.
        table = (3, 2, ((0, (2, 1)), (0, (2, 2))))
        answer = products(table, [0])
        self.assertEqual(self.check(table, [0]), "open")
        self.assertEqual({triple[:2] for triple in answer[1]}, {(0, 0), (0, 1), (1, 0), (1, 1)})

    def test_somewhat_beyond(self):
        self.assertEqual(self.check((101, 2, ((10, (1, 1)), (11, (1, 2)), (12, (1, 3)))),
                                    [10, 11, 12]), "open")
        self.assertEqual(self.check((11, 2, ((0, (12, 1)), (1, (1, 13)), (2, (-10, 3)))),
                                    [0, 1, 2]), "open")
        self.assertEqual(products((7, 0, ()), []), ("open", []))


class AnyKOfSomeHands(ProductsCase):
    def check_rule(self, p, k, hands):
        table = table_of(p, ("some", k, tuple(("hand", hand) for hand in hands)))
        for few in range(len(hands) + 1):
            chosen = sorted(hands[:few])
            self.assertEqual(self.check(table, chosen) == "open", few >= 2 * k - 1)
            chosen = sorted(hands[len(hands) - few:])
            self.assertEqual(self.check(table, chosen) == "open", few >= 2 * k - 1)

    def test_all_sets_of_small_rules(self):
        for p in (2, 3, 5, 7):
            for many in range(1, min(p, 6) + 1):
                for k in range(1, many + 1):
                    if k > 5 or k > 1 and many >= p:
                        continue
                    table = table_of(p, ("some", k, tuple(("hand", h) for h in range(many))))
                    for hands in all_sets(many):
                        self.assertEqual(self.check(table, hands) == "open",
                                         len(hands) >= 2 * k - 1)

    def test_ten_hands(self):
        chance = random.Random(4)
        for p in (11, 13, 97):
            for k in range(1, 6):
                hands = list(range(10))
                chance.shuffle(hands)
                self.check_rule(p, k, hands)

    def test_more_hands_than_p_where_one_is_enough(self):
        self.check_rule(2, 1, [4, 1, 9, 0])

    def test_six_of_some_hands_are_too_wide(self):
        table = table_of(11, read_rule("6 of (a, b, c, d, e, f, g)"))
        with self.assertRaises(TooMany):
            products(table, list(range(7)))


class TheAskersOwn(unittest.TestCase):
    def test_what_is_handed_in_stays(self):
        for hands in ([0, 1, 2], [0, 1], []):
            before = copy.deepcopy((THREE, hands))
            products(THREE, hands)
            self.assertEqual((THREE, hands), before)

    def test_a_change_of_what_was_told_changes_nothing(self):
        first = products(THREE, [0, 1, 2])
        kept = copy.deepcopy(first)
        first[1].append("spoilt")
        first[1][0] = (5, 5, 5)
        self.assertEqual(products(THREE, [0, 1, 2]), kept)

    def test_hands_changed_behind_the_call_are_asked_anew(self):
        hands = [0, 1, 2]
        first = products(THREE, hands)
        kept = copy.deepcopy(first)
        hands.pop()
        self.assertEqual(products(THREE, hands)[0], "shut")
        self.assertEqual(first, kept)


if __name__ == "__main__":
    unittest.main()
