import collections
import copy
import random
import unittest

from fewopen.errors import OpenError, TooMany
from fewopen.rules import read_rule
from fewopen.tables import is_table, parts, rows_of, table_of
from helper import PRIMES, all_lines, parts_plainly, some_rule, some_table

TWO = (11, 2, ((0, (1, 1)), (1, (1, 2))))


def of_hands(k, many):
    return ("some", k, tuple(("hand", h % 10) for h in range(many)))


def table_plainly(p, rule):
    """As the document goes through the rule, with places taken one by one; None for TooMany."""
    places = [0]
    rows = []

    def go(inner, line):
        if inner[0] == "hand":
            rows.append((inner[1], line))
            return True
        k, rules = inner[1], inner[2]
        if k > 1 and len(rules) >= p:
            return False
        own = []
        while len(own) < k - 1:
            places.append(len(places))
            own.append(places[-1])
        return all([go(deeper, {**line, **{place: i ** (e + 1) % p for e, place in enumerate(own)}})
                    for i, deeper in enumerate(rules, start=1)])

    if not go(rule, {0: 1}) or len(places) > 12:
        return None
    return (p, len(places), tuple((hand, tuple(line.get(place, 0) for place in places))
                                  for hand, line in rows))


class IsTable(unittest.TestCase):
    def takes(self, thing):
        with self.subTest(repr(thing)[:70]):
            self.assertIs(is_table(thing), True)

    def refuses(self, thing):
        with self.subTest(repr(thing)[:70]):
            self.assertIs(is_table(thing), False)

    def test_ordinary_ones(self):
        self.takes(TWO)
        self.takes((2, 1, ((0, (0,)), (0, (1,)), (9, (1,)))))
        for seed in range(50):
            self.takes(some_table(seed, PRIMES[seed % 25], 1 + seed % 12, seed % 25))

    def test_p(self):
        for p in range(-5, 120):
            self.assertIs(is_table((p, 1, ((0, (0,)),))), p in PRIMES)
        for p in (0, 1, 4, 96, 98, 101, -7, 10 ** 59, True, False, 7.0, "7", None, (7,), [7]):
            self.refuses((p, 1, ()))

    def test_the_width(self):
        for wide in (1, 2, 11, 12):
            self.takes((7, wide, ((0, (6,) * wide),)))
            self.takes((7, wide, ()))
        for wide in (0, 13, 14, -1, 10 ** 59):
            self.refuses((7, wide, ()))
        self.refuses((7, 0, ((0, ()),)))
        self.refuses((7, 13, ((0, (1,) * 13),)))
        for wide in (True, False, 1.0, "1", None, (1,), [1]):
            self.refuses((7, wide, ()))
            self.refuses((7, wide, ((0, (1,)),)))

    def test_how_many_rows(self):
        for many in (0, 1, 23, 24):
            self.takes((7, 2, ((3, (1, 2)),) * many))
        for many in (25, 26, 1000):
            self.refuses((7, 2, ((3, (1, 2)),) * many))

    def test_hands(self):
        for hand in range(10):
            self.takes((7, 2, ((hand, (1, 2)),)))
        for hand in (10, 11, -1, 10 ** 59, True, False, 1.0, "a", "1", None, (1,), [1]):
            self.refuses((7, 2, ((hand, (1, 2)),)))
            self.refuses((7, 2, ((0, (1, 2)), (hand, (1, 2)))))

    def test_lines(self):
        for line in ((), (1,), (1, 2, 3), (1, 7), (8, 1), (-1, 1), (1, -7), (True, 1), (1, False),
                     (1.0, 2), ("1", 2), (None, 2), ((1,), 2), ([1], 2), [1, 2], {1: 1, 2: 2},
                     {1, 2}, "12", b"12", range(2), None, 1, (1, 10 ** 59)):
            self.refuses((7, 2, ((0, line),)))
            self.refuses((7, 2, ((0, (1, 1)), (0, line), (0, (1, 1)))))
        for p in (2, 97):
            self.takes((p, 1, ((0, (p - 1,)),)))
            self.refuses((p, 1, ((0, (p,)),)))
            self.refuses((p, 1, ((0, (-1,)),)))

    def test_rows(self):
        for row in ((), (0,), (0, (1, 2), 3), [0, (1, 2)], ((1, 2), 0), 0, None, "ab", b"ab",
                    {0: (1, 2)}, {0: 1, 1: 2}, (0, 1, 2), True):
            self.refuses((7, 2, (row,)))
            self.refuses((7, 2, ((0, (1, 2)), row)))
        row = (0, (1, 2))
        for rows in ([row], [], {0: (1, 2)}, {row}, {}, "", "a", b"", None, 0, row, range(0),
                     iter((row,))):
            self.refuses((7, 2, rows))

    def test_lists_in_a_tuples_place(self):
        self.refuses([7, 2, ((0, (1, 2)),)])
        self.refuses((7, 2, [(0, (1, 2))]))
        self.refuses((7, 2, ([0, (1, 2)],)))
        self.refuses((7, 2, ((0, [1, 2]),)))

    def test_things_of_other_kinds(self):
        for thing in (None, True, False, 0, 7, 10 ** 59, 2.5, float("nan"), 1j, "", "7; 1", b"7",
                      [], {}, set(), (), (7,), (7, 1), (7, 1, (), ()), (7, 1, (), None), "abc",
                      [7, 1, ()], {7: 1}, {7, 1, ()}, frozenset(), range(3), object(), tuple, len,
                      ((), (), ()), (None, None, None), TooMany("7"), iter(TWO), (TWO,),
                      (7, (), 1), ((), 1, 7)):
            self.refuses(thing)

    def test_tables_with_one_thing_changed(self):
        chance = random.Random(5)
        things = [None, True, -1, 0, 1, 6, 7, 9, 10, 10 ** 59, "", "a", 2.5, (), (1,), [], [1], {}]
        for seed in range(400):
            p, wide, rows = some_table(seed, 7, 1 + seed % 3, 3)
            rows = [[hand, list(line)] for hand, line in rows]
            row, thing = chance.choice(rows), chance.choice(things)
            if seed % 2:
                row[0] = thing
            else:
                row[1][chance.randrange(wide)] = thing
            made = (p, wide, tuple((hand, tuple(line)) for hand, line in rows))
            self.assertIs(is_table(made), type(thing) is int and 0 <= thing < (10 if seed % 2 else 7))

    def test_a_tuple_of_an_own_kind_is_a_tuple(self):
        named = collections.namedtuple("Named", "p wide rows")
        self.takes(named(*TWO))


class Parts(unittest.TestCase):
    def test_told_ones(self):
        self.assertEqual(parts(TWO, (3, 5)), [8, 2])
        self.assertEqual(parts(TWO, (0, 0)), [0, 0])
        self.assertEqual(parts((2, 1, ((0, (1,)), (5, (0,)), (0, (1,)))), (1,)), [1, 0, 1])
        self.assertEqual(parts((97, 12, ((9, (96,) * 12),)), (96,) * 12), [12])

    def test_no_rows(self):
        self.assertEqual(parts((7, 3, ()), (1, 2, 3)), [])

    def test_all_fillings_of_small_tables(self):
        for seed in range(30):
            table = some_table(seed, (2, 3, 5)[seed % 3], 1 + seed % 3, seed % 6)
            for filling in all_lines(table[0], table[1]):
                told = parts(table, filling)
                self.assertIs(type(told), list)
                self.assertEqual(told, parts_plainly(table, filling))

    def test_wide_tables_and_beyond(self):
        chance = random.Random(1)
        for wide, many in ((12, 24), (13, 25)):
            table = some_table(wide, 97, wide, many)
            filling = tuple(chance.randrange(97) for _ in range(wide))
            self.assertEqual(parts(table, filling), parts_plainly(table, filling))


class RowsOf(unittest.TestCase):
    TABLE = (7, 1, tuple((hand, (1,)) for hand in (2, 0, 9, 2, 0, 2)))

    def test_told_ones(self):
        self.assertEqual(rows_of(self.TABLE, [0]), [1, 4])
        self.assertEqual(rows_of(self.TABLE, [2]), [0, 3, 5])
        self.assertEqual(rows_of(self.TABLE, [0, 9]), [1, 2, 4])
        self.assertEqual(rows_of(self.TABLE, [0, 2, 9]), [0, 1, 2, 3, 4, 5])
        self.assertEqual(rows_of(self.TABLE, list(range(10))), [0, 1, 2, 3, 4, 5])

    def test_no_hands_and_hands_that_have_no_row(self):
        self.assertEqual(rows_of(self.TABLE, []), [])
        self.assertEqual(rows_of(self.TABLE, [1, 3, 8]), [])
        self.assertEqual(rows_of(self.TABLE, [1, 9]), [2])
        self.assertEqual(rows_of((7, 1, ()), [0, 1]), [])

    def test_hands_and_rows_somewhat_beyond(self):
        table = (7, 1, ((10, (1,)),) * 25)
        self.assertEqual(rows_of(table, [10]), list(range(25)))
        self.assertEqual(rows_of(table, [1]), [])


class TableOf(unittest.TestCase):
    def refuses(self, p, rule):
        with self.subTest((p, rule)):
            self.assertRaises(TooMany, table_of, p, rule)

    def test_told_ones(self):
        for p, text, wide, rows in (
                (11, "all (a, b)", 2, ((0, (1, 1)), (1, (1, 2)))),
                (2, "a", 1, ((0, (1,)),)),
                (97, "j", 1, ((9, (1,)),)),
                (2, "all (c)", 1, ((2, (1,)),)),
                (2, "one (b, a, b)", 1, ((1, (1,)), (0, (1,)), (1, (1,)))),
                (5, "3 of (a, b, c, d)", 3,
                 ((0, (1, 1, 1)), (1, (1, 2, 4)), (2, (1, 3, 4)), (3, (1, 4, 1)))),
                (7, "2 of (a, all (b, c), one (d, a))", 3,
                 ((0, (1, 1, 0)), (1, (1, 2, 1)), (2, (1, 2, 2)), (3, (1, 3, 0)), (0, (1, 3, 0)))),
                (7, "all (all (a, b), all (c, d))", 4,
                 ((0, (1, 1, 1, 0)), (1, (1, 1, 2, 0)), (2, (1, 2, 0, 1)), (3, (1, 2, 0, 2)))),
                (5, "one (all (a, b), c, all (a, d))", 3,
                 ((0, (1, 1, 0)), (1, (1, 2, 0)), (2, (1, 0, 0)), (0, (1, 0, 1)), (3, (1, 0, 2)))),
                (5, "all (a, 2 of (b, all (c, d), e), one (a, b))", 5,
                 ((0, (1, 1, 1, 0, 0)), (1, (1, 2, 4, 1, 0)), (2, (1, 2, 4, 2, 1)),
                  (3, (1, 2, 4, 2, 2)), (4, (1, 2, 4, 3, 0)), (0, (1, 3, 4, 0, 0)),
                  (1, (1, 3, 4, 0, 0))))):
            with self.subTest(text):
                self.assertEqual(table_of(p, read_rule(text)), (p, wide, rows))

    def test_against_going_through_place_by_place(self):
        chance = random.Random(2)
        seen = {"made": 0, "refused": 0}
        for number in range(1500):
            p = (2, 3, 5, 7, 11, 97)[number % 6]
            rule = some_rule(chance, 5, 20)
            table = table_plainly(p, rule)
            if table is None:
                self.refuses(p, rule)
                seen["refused"] += 1
            else:
                self.assertEqual(table_of(p, rule), table)
                self.assertIs(is_table(table_of(p, rule)), True)
                seen["made"] += 1
        self.assertGreater(min(seen.values()), 100)

    def test_rules_around_p_in_a_some_with_a_k_above_one(self):
        for p in (3, 5, 7):
            for k in range(2, p):
                self.assertEqual(table_of(p, of_hands(k, p - 1)), table_plainly(p, of_hands(k, p - 1)))
                for many in (p, p + 1, 10):
                    self.refuses(p, of_hands(k, many))
        self.refuses(2, of_hands(2, 2))
        self.refuses(2, of_hands(2, 3))
        self.assertEqual(table_of(11, of_hands(10, 10))[1], 10)
        self.refuses(11, of_hands(2, 11))

    def test_rules_around_p_in_a_some_with_a_k_of_one(self):
        for p in (2, 3, 5, 7):
            for many in (1, p - 1, p, p + 1, 10):
                rows = tuple((hand, (1,)) for hand in range(many))
                self.assertEqual(table_of(p, of_hands(1, many)), (p, 1, rows))

    def test_too_many_rules_deep_within(self):
        for around in (1, 2):
            self.refuses(3, ("some", around, (("hand", 0), ("some", 1, (of_hands(2, 3),)))))
        # Where it isn't the some itself that has a k above 1, nothing is refused.
        inner = ("some", 2, (("hand", 0), of_hands(1, 5)))
        self.assertEqual(table_of(3, inner), table_plainly(3, inner))

    def test_twelve_places_and_thirteen(self):
        ten, three, two = of_hands(10, 10), of_hands(3, 3), of_hands(2, 2)
        for rule in (("some", 1, (ten, three)), ("some", 1, (three, ten)),
                     ("some", 2, (ten, two)), ("some", 1, (ten, two, two))):
            for p in (11, 97):
                table = table_of(p, rule)
                self.assertEqual(table[1], 12)
                self.assertIs(is_table(table), True)
        for rule in (("some", 1, (ten, three, two)), ("some", 2, (ten, three)),
                     ("some", 1, (ten, of_hands(4, 4))), ("some", 1, (ten, of_hands(4, 10)))):
            for p in (11, 97):
                self.refuses(p, rule)
        nine = ("some", 10, (ten,) * 2 + (("hand", 1),) * 8)
        self.refuses(97, nine)

    def test_rules_somewhat_beyond_are_not_refused(self):
        twenty_five = ("some", 1, tuple([of_hands(2, 5)] * 5))
        self.assertEqual(table_of(7, twenty_five), table_plainly(7, twenty_five))
        self.assertEqual(table_of(7, ("hand", 10)), (7, 1, ((10, (1,)),)))
        self.assertEqual(table_of(101, of_hands(2, 3)), table_plainly(101, of_hands(2, 3)))
        self.assertEqual(len(table_of(13, of_hands(2, 12))[2]), 12)
        deep = ("hand", 3)
        for _ in range(8):
            deep = ("some", 1, (deep,))
        self.assertEqual(table_of(2, deep), (2, 1, ((3, (1,)),)))
        self.assertEqual(table_of(5, ("some", 0, (("hand", 3),))), (5, 1, ((3, (1,)),)))

    def test_too_many_is_an_open_error(self):
        self.assertRaises(OpenError, table_of, 2, of_hands(2, 2))


class TheAskersOwn(unittest.TestCase):
    def test_what_is_handed_in_stays(self):
        filling, hands = (3, 5), [0, 1]
        rule = read_rule("2 of (a, all (b, c), one (d, a))")
        before = copy.deepcopy((TWO, filling, hands, rule))
        is_table(TWO)
        parts(TWO, filling)
        rows_of(TWO, hands)
        table_of(7, rule)
        self.assertEqual((TWO, filling, hands, rule), before)

    def test_is_table_leaves_lists_as_they_are(self):
        thing = (7, 2, [(0, [1, 2])])
        is_table(thing)
        self.assertEqual(thing, (7, 2, [(0, [1, 2])]))

    def test_a_change_of_what_was_told_changes_nothing(self):
        told = parts(TWO, (3, 5))
        told[0] = "spoilt"
        told.append(1)
        self.assertEqual(parts(TWO, (3, 5)), [8, 2])
        told = rows_of(TWO, [0, 1])
        told.clear()
        self.assertEqual(rows_of(TWO, [0, 1]), [0, 1])

    def test_hands_changed_behind_the_call_are_asked_anew(self):
        hands = [0]
        first = rows_of(TWO, hands)
        hands.append(1)
        self.assertEqual(first, [0])
        self.assertEqual(rows_of(TWO, hands), [0, 1])

    def test_a_table_is_made_of_tuples_all_through(self):
        table = table_of(7, read_rule("2 of (a, all (b, c), one (d, a))"))
        self.assertIs(type(table), tuple)
        self.assertIs(type(table[2]), tuple)
        for row in table[2]:
            self.assertIs(type(row), tuple)
            self.assertIs(type(row[1]), tuple)
            for number in row[1]:
                self.assertIs(type(number), int)


if __name__ == "__main__":
    unittest.main()
