import copy
import random
import unittest

from fewopen.errors import NoRule
from fewopen.rules import fits, hands_in, read_rule, show_rule, turned_rule
from helper import all_sets, some_rule

A, B, C, D = [("hand", h) for h in range(4)]
WRITTEN = [
    ("a", A),
    ("j", ("hand", 9)),
    ("all (a)", ("some", 1, (A,))),
    ("all (a, b)", ("some", 2, (A, B))),
    ("one (a, b)", ("some", 1, (A, B))),
    ("one (a, a)", ("some", 1, (A, A))),
    ("2 of (a, b, c)", ("some", 2, (A, B, C))),
    ("2 of (a, all (b, c), one (d, a))",
     ("some", 2, (A, ("some", 2, (B, C)), ("some", 1, (D, A))))),
    ("all (all (all (all (all (c)))))",
     ("some", 1, (("some", 1, (("some", 1, (("some", 1, (("some", 1, (C,)),)),)),)),))),
]
WRONG = {
    "nothing": ["", " ", ",", "(", ")", "()", "\n"],
    "no hand": ["k", "z", "A", "J", "0", "1", "ab", "aa", "hand", "-", "\u00e4", "\u0430"],
    "blanks and signs around": [" a", "a ", "a\n", "\na", "a\t", "a,", ", a", "a)", "(a)", "a, b",
                                " all (a)", "all (a) ", "all (a)\n", "all (a), b", "all (a)b",
                                "all (a, b)c", "all (a) (b)"],
    "heads": ["all", "one", "all a", "all(a)", "all  (a)", "All (a)", "ALL (a)", "one(a, b)",
              "One (a, b)", "none (a, b)", "any (a, b)", "of (a, b)", "2 (a, b, c)",
              "2 of a, b, c", "2of (a, b, c)", "2 of(a, b, c)", "2  of (a, b, c)",
              "2 of  (a, b, c)", "2 Of (a, b, c)", "two of (a, b, c)", "all of (a, b)",
              "(a, b)", "some (a, b)", "2\tof (a, b, c)", "all\u00a0(a)"],
    "figures": ["0 of (a, b, c)", "-1 of (a, b, c)", "-2 of (a, b, c)", "+2 of (a, b, c)",
                "02 of (a, b, c)", "2.0 of (a, b, c)", "1_0 of (a, b)", "\u0662 of (a, b, c)",
                "\u00b2 of (a, b, c)", "\uff12 of (a, b, c)", "22 of (a, b, c)",
                "1" * 60 + " of (a, b, c)"],
    "another head is due": ["1 of (a, b)", "1 of (a)", "2 of (a, b)", "one (a)", "3 of (a, b, c)",
                            "10 of (a, a, a, a, a, a, a, a, a, a)", "all (a, 1 of (b, c))"],
    "k beyond the rules": ["2 of (a)", "3 of (a, b)", "9 of (a, b, c)", "10 of (a, b)",
                           "4 of (a, b, c)"],
    "between the rules": ["all (a,b)", "all (a b)", "all (a  b)", "all (a,  b)", "all (a , b)",
                          "all ( a, b)", "all (a, b )", "all (a,, b)", "all (a, , b)",
                          "all (a; b)", "all (a,\tb)", "all (a,\nb)", "all (ab)", "all (a, k)",
                          "all (a, 1)"],
    "no rules": ["all ()", "one ()", "2 of ()", "0 of ()", "all ( )", "all (a, all ())",
                 "all (,)", "all (, a)", "all (a,)", "all (a, )"],
    "not closed": ["all (", "all (a", "all (a,", "all (a, ", "all (a, b", "all (a, one (b, c)",
                   "all (a]", "one (", "2 of (", "2 of (a, b, c", "all (all (all ("],
    "closed too often": ["all (a))", "a)", "all (a, b)))", "one (a)), b)"],
}


def of_many(word, letters):
    return f"{word} (" + ", ".join(letters) + ")"


def nested(depth):
    return "all (" * depth + "a" + ")" * depth


def fits_plainly(rule, hands):
    if rule[0] == "hand":
        return rule[1] in hands
    return sum(1 for inner in rule[2] if fits_plainly(inner, hands)) >= rule[1]


class RuleCase(unittest.TestCase):
    def refuses(self, thing):
        with self.subTest(repr(thing)[:60]):
            self.assertRaises(NoRule, read_rule, thing)

    def reads_and_shows(self, text, rule):
        with self.subTest(text[:60]):
            self.assertEqual(read_rule(text), rule)
            self.assertEqual(show_rule(rule), text)


class Fits(unittest.TestCase):
    def test_a_hand(self):
        self.assertIs(fits(A, [0]), True)
        self.assertIs(fits(A, [0, 3]), True)
        self.assertIs(fits(A, [1, 3]), False)
        self.assertIs(fits(A, []), False)
        self.assertIs(fits(("hand", 9), [9]), True)

    def test_k_from_one_to_how_many(self):
        for many in range(1, 11):
            rules = tuple(("hand", h) for h in range(many))
            for k in range(1, many + 1):
                for size in range(many + 1):
                    self.assertIs(fits(("some", k, rules), list(range(size))), size >= k)

    def test_a_hand_again_and_again_counts_each_time(self):
        self.assertIs(fits(("some", 2, (A, A, B)), [0]), True)
        self.assertIs(fits(("some", 2, (A, A, B)), [1]), False)

    def test_somes_in_somes(self):
        rule = ("some", 2, (A, ("some", 2, (B, C)), ("some", 1, (D, A))))
        told = [hands for hands in all_sets(4) if fits(rule, hands)]
        self.assertEqual(told, [hands for hands in all_sets(4)
                                if 0 in hands or {1, 2, 3} <= set(hands)])

    def test_against_plain_counting(self):
        chance = random.Random(7)
        for _ in range(60):
            rule = some_rule(chance, 5, 20, 6)
            for hands in all_sets(6):
                self.assertIs(fits(rule, hands), fits_plainly(rule, hands))


class HandsIn(unittest.TestCase):
    def test_rising_and_unlike(self):
        self.assertEqual(hands_in(D), [3])
        self.assertEqual(hands_in(("some", 1, (D, A, D, ("some", 2, (C, A))))), [0, 2, 3])
        self.assertEqual(hands_in(("some", 1, tuple(("hand", h) for h in range(9, -1, -1)))),
                         list(range(10)))


class ReadAndShow(RuleCase):
    def test_told_ones(self):
        for text, rule in WRITTEN:
            self.reads_and_shows(text, rule)

    def test_each_hand(self):
        for number, letter in enumerate("abcdefghij"):
            self.reads_and_shows(letter, ("hand", number))

    def test_one_to_ten_rules_and_each_k(self):
        for many in range(1, 11):
            rules = tuple(("hand", h) for h in range(many))
            letters = "abcdefghij"[:many]
            for k in range(1, many + 1):
                word = "all" if k == many else "one" if k == 1 else f"{k} of"
                self.reads_and_shows(of_many(word, letters), ("some", k, rules))

    def test_eleven_rules_are_refused(self):
        for word in ["all", "one", "10 of"] + [f"{k} of" for k in range(2, 10)]:
            self.refuses(of_many(word, "abcdefghija"))
        self.refuses(of_many("all", ["a", of_many("one", "a" * 11)]))

    def test_twenty_hands_written_and_twenty_one(self):
        ten = of_many("one", "abcdefghij")
        read = read_rule(of_many("all", [ten, ten]))
        self.assertEqual(show_rule(read), of_many("all", [ten, ten]))
        self.assertEqual(hands_in(read), list(range(10)))
        self.refuses(of_many("all", [ten, ten, "a"]))
        self.refuses(of_many("all", ["a", ten, ten]))
        read_rule(of_many("one", ["all (a, a)"] * 10))
        self.refuses(of_many("one", ["all (a, a)"] * 9 + ["all (a, a, a)"]))
        self.refuses(of_many("one", [ten] * 10))

    def test_five_somes_in_one_another_and_six(self):
        self.assertEqual(show_rule(read_rule(nested(5))), nested(5))
        self.refuses(nested(6))
        self.refuses(of_many("one", ["a", "b", nested(5)]))
        self.refuses(of_many("one", [nested(5), "b"]))
        # Side by side they don't lie in one another.
        beside = of_many("one", [nested(4)] * 10)
        self.assertEqual(show_rule(read_rule(beside)), beside)

    def test_texts_of_brackets(self):
        for depth in (7, 100, 799):
            self.refuses(nested(depth)[:4000])
            self.refuses("all (" * depth)
            self.refuses("2 of (a, " * min(depth, 444))
            self.refuses(")" * depth)
        self.refuses(of_many("all", "a" * 1300))

    def test_texts_that_are_no_rule(self):
        for texts in WRONG.values():
            for text in texts:
                self.refuses(text)

    def test_things_that_are_no_text(self):
        for thing in (None, 0, 1, True, False, 2.5, b"a", ["a"], ("a",), {"a": 1}, {"a"}, [],
                      A, ("some", 1, (A,)), object(), str, NoRule("a")):
            self.refuses(thing)

    def test_what_is_shown_is_read_back(self):
        chance = random.Random(3)
        for _ in range(400):
            rule = some_rule(chance, 5, 20)
            self.assertEqual(read_rule(show_rule(rule)), rule)

    def test_a_changed_sign_is_refused_or_written_back(self):
        chance = random.Random(4)
        signs = "abjkz 0123(),of\nnel"
        for _ in range(3000):
            text = show_rule(some_rule(chance, 3, 8))
            at = chance.randrange(len(text) + 1)
            changed = text[:at] + chance.choice(["", chance.choice(signs)]) \
                + text[at + chance.randrange(2):]
            try:
                rule = read_rule(changed)
            except NoRule:
                continue
            self.assertEqual(show_rule(rule), changed)

    def test_rules_somewhat_beyond_are_shown(self):
        self.assertEqual(show_rule(("hand", 10)), "k")
        eleven = ("some", 10, (A,) * 11)
        self.assertEqual(show_rule(eleven), of_many("10 of", "a" * 11))


class Turned(unittest.TestCase):
    def test_told_ones(self):
        self.assertEqual(turned_rule(A), A)
        self.assertEqual(turned_rule(("some", 1, (A,))), ("some", 1, (A,)))
        self.assertEqual(turned_rule(("some", 1, (A, B, C))), ("some", 3, (A, B, C)))
        self.assertEqual(turned_rule(("some", 2, (A, B, C))), ("some", 2, (A, B, C)))
        self.assertEqual(show_rule(turned_rule(read_rule("2 of (a, all (b, c), one (d, a), b)"))),
                         "3 of (a, one (b, c), all (d, a), b)")

    def test_it_fits_where_the_others_do_not_fit_the_rule(self):
        chance = random.Random(9)
        rules = [rule for text, rule in WRITTEN] + [some_rule(chance, 5, 20) for _ in range(8)]
        for rule in rules:
            turned = turned_rule(rule)
            for hands in all_sets(10):
                others = [h for h in range(10) if h not in hands]
                self.assertIs(fits(turned, hands), not fits_plainly(rule, others))

    def test_turned_twice_it_is_the_rule(self):
        chance = random.Random(10)
        for _ in range(100):
            rule = some_rule(chance, 5, 20)
            self.assertEqual(turned_rule(turned_rule(rule)), rule)

    def test_a_turned_rule_is_a_rule(self):
        chance = random.Random(11)
        for _ in range(100):
            turned = turned_rule(some_rule(chance, 5, 20))
            self.assertEqual(read_rule(show_rule(turned)), turned)


class TheAskersOwn(unittest.TestCase):
    def test_what_is_handed_in_stays(self):
        rule = read_rule("2 of (a, all (b, c), one (d, a))")
        hands = [0, 1]
        before = copy.deepcopy(rule)
        fits(rule, hands)
        hands_in(rule)
        turned_rule(rule)
        show_rule(rule)
        self.assertEqual((rule, hands), (before, [0, 1]))

    def test_a_change_of_what_was_told_changes_nothing(self):
        rule = read_rule("one (c, b, c)")
        told = hands_in(rule)
        told.append("spoilt")
        told[0] = 7
        self.assertEqual(hands_in(rule), [1, 2])
        self.assertIs(fits(rule, [1]), True)

    def test_hands_changed_behind_the_call_are_asked_anew(self):
        hands = [1]
        self.assertIs(fits(A, hands), False)
        hands.insert(0, 0)
        self.assertIs(fits(A, hands), True)
        hands.clear()
        self.assertIs(fits(A, hands), False)

    def test_rules_are_tuples_all_through(self):
        def check(rule):
            self.assertIs(type(rule), tuple)
            self.assertIs(type(rule[1]), int)
            if rule[0] == "some":
                self.assertIs(type(rule[2]), tuple)
                for inner in rule[2]:
                    check(inner)
        read = read_rule("2 of (a, all (b, c), one (d, a))")
        check(read)
        check(turned_rule(read))


if __name__ == "__main__":
    unittest.main()
