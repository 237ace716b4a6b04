"""What the document promises over the whole program."""

import copy
import importlib
import inspect
import random
import unittest

from fewopen.anew import handed_on, renewed, seen_twice
from fewopen.compare import alike, idle, trimmed
from fewopen.counts import how_often
from fewopen.curves import curve_at, through
from fewopen.desk import Desk
from fewopen.errors import OpenError
from fewopen.lines import held, nought_sums
from fewopen.mixes import added, products, scaled
from fewopen.numbers import comes_to, is_prime, over
from fewopen.opening import opens, told
from fewopen.rules import fits, hands_in, read_rule, show_rule, turned_rule
from fewopen.sets import bars, open_sets
from fewopen.spoilt import meant
from fewopen.tables import is_table, parts, rows_of, table_of
from fewopen.texts import read_seen, read_table, show_seen, show_table
from fewopen.turned import turned_table
from helper import (LinesCase, all_sets, lines_of, opens_plainly, some_filling, some_rule,
                    some_table, square_sum, unit_line)

INTERFACE = {
    "numbers": ("is_prime(thing)", "over(p, one, other)", "comes_to(p, one, other)"),
    "lines": ("held(p, width, lines, wished)", "nought_sums(p, width, lines)"),
    "rules": ("read_rule(text)", "show_rule(rule)", "fits(rule, hands)", "hands_in(rule)",
              "turned_rule(rule)"),
    "tables": ("is_table(thing)", "table_of(p, rule)", "parts(table, filling)",
               "rows_of(table, hands)"),
    "opening": ("opens(table, hands)", "told(table, seen)"),
    "sets": ("open_sets(table, many)", "bars(table, many, hands)"),
    "counts": ("how_often(table, seen)",),
    "curves": ("curve_at(p, curve, x)", "through(p, points)"),
    "spoilt": ("meant(p, width, points, most)",),
    "mixes": ("added(p, one, other)", "scaled(p, one, number)", "products(table, hands)"),
    "anew": ("renewed(table, some, chances)", "seen_twice(table, ones, others)",
             "handed_on(table, hands, multipliers, some, other, chances)"),
    "compare": ("alike(one, other, many)", "idle(table, many)", "trimmed(table, many)"),
    "turned": ("turned_table(table)",),
    "texts": ("show_table(table)", "show_seen(seen)", "read_table(text)", "read_seen(p, text)"),
    "desk": ("Desk()",),
}

THREE = (11, 2, ((0, (1, 1)), (1, (1, 2)), (2, (1, 3))))
OTHER = (11, 2, ((3, (1, 1)), (4, (1, 2))))
RULE = ("some", 2, (("hand", 0), ("some", 1, (("hand", 1), ("hand", 2))), ("hand", 3)))
POINTS = [(1, 8), (2, 2), (3, 0), (4, 1)]
# A question for each answer that the interface lists.
ASKED = (
    (is_prime, [7]), (is_prime, [[7]]), (over, [7, 1, 3]), (comes_to, [7, (1, 2), (3, 4)]),
    (held, [7, 2, [(1, 1), (1, 2)], (1, 0)]), (held, [7, 2, [(1, 1)], (1, 0)]),
    (nought_sums, [5, 1, [(1,), (2,), (0,)]]), (nought_sums, [5, 1, [(1,)]]),
    (read_rule, ["2 of (a, b, c)"]), (show_rule, [RULE]), (fits, [RULE, [0, 2]]),
    (hands_in, [RULE]), (turned_rule, [RULE]), (turned_rule, [("hand", 3)]),
    (is_table, [THREE]), (is_table, [[11, 2, []]]), (table_of, [7, RULE]),
    (parts, [THREE, (3, 5)]), (parts, [(7, 1, ()), (3,)]), (rows_of, [THREE, [0, 2]]),
    (opens, [THREE, [0, 2]]), (opens, [THREE, [0]]),
    (told, [THREE, [8, 2, 1]]), (told, [THREE, [8, None, 7]]), (told, [THREE, [8, None, None]]),
    (open_sets, [THREE, 3]), (bars, [THREE, 3, [0, 1]]),
    (how_often, [THREE, [8, None, 7]]), (how_often, [THREE, [8, 2, 1]]),
    (how_often, [THREE, [8, None, None]]),
    (curve_at, [11, (3, 5), 2]), (through, [11, [(1, 8), (2, 2)]]),
    (meant, [11, 2, POINTS, 0]), (meant, [11, 2, POINTS, 1]), (meant, [11, 2, POINTS, 2]),
    (added, [11, [8, 2], [5, 9]]), (scaled, [11, [8, 2], 3]), (scaled, [11, [8, 2], 1]),
    (products, [THREE, [0, 1, 2]]), (products, [THREE, [0, 1]]),
    (renewed, [THREE, [8, 2, 7], [4]]), (renewed, [THREE, [8, 2, 7], [0]]),
    (seen_twice, [THREE, [0, 1], [2]]), (seen_twice, [THREE, [1], [0, 2]]),
    (seen_twice, [THREE, [0], [1]]),
    (handed_on, [THREE, [0, 2], [7, 5], [8, 7], OTHER, [[1], [6]]]),
    (alike, [THREE, THREE, 3]), (alike, [THREE, OTHER, 5]), (alike, [OTHER, THREE, 5]),
    (idle, [OTHER, 5]), (idle, [THREE, 3]), (trimmed, [THREE, 8]), (turned_table, [THREE]),
    (show_table, [THREE]), (show_seen, [[8, None, 7]]), (read_table, ["11; 2; a 1 1"]),
    (read_seen, [11, "8 - 7"]), (read_seen, [11, ""]),
)
REFUSED = (
    (over, [7, 1, 0]), (read_rule, ["k"]), (table_of, [2, ("some", 2, (("hand", 0), ("hand", 1)))]),
    (through, [11, [(1, 8), (1, 2)]]), (meant, [11, 2, [(1, 8)], 0]),
    (products, [(7, 6, ()), [0, 1]]), (turned_table, [(7, 2, ())]),
    (handed_on, [THREE, [0, 2], [7, 6], [8, 7], OTHER, [[1], [6]]]),
    (turned_table, [(7, 1, ((0, (1,)),) * 13)]), (read_table, ["11"]), (read_seen, [11, "11"]),
)


def lists_in(thing):
    """All lists within lists and tuples."""
    found = [thing] if isinstance(thing, list) else []
    if isinstance(thing, (list, tuple)):
        for inner in thing:
            found.extend(lists_in(inner))
    return found


def leaves_of(thing):
    """All that stands within lists and tuples and is none itself."""
    if isinstance(thing, (list, tuple)):
        return [leaf for inner in thing for leaf in leaves_of(inner)]
    return [thing]


def spoil(thing):
    for inner in lists_in(thing):
        inner[:] = [*reversed(inner), "spoilt"]


class Interface(unittest.TestCase):
    def test_all_is_there_under_its_name_with_its_arguments(self):
        for name, listed in INTERFACE.items():
            module = importlib.import_module(f"fewopen.{name}")
            for form in listed:
                called = form.partition("(")[0]
                self.assertEqual(called + str(inspect.signature(getattr(module, called))), form)
        self.assertEqual(str(inspect.signature(Desk().say)), "(row)")

    def test_each_of_it_is_asked_below(self):
        asked = {function.__name__ for function, given in ASKED} | {"Desk"}
        listed = {form.partition("(")[0] for forms in INTERFACE.values() for form in forms}
        self.assertEqual(asked, listed)


class TheAskersOwn(unittest.TestCase):
    def test_nothing_that_is_handed_in_is_changed(self):
        for function, given in ASKED:
            handed_in = copy.deepcopy(given)
            function(*handed_in)
            self.assertEqual(handed_in, given, function.__name__)
        for function, given in REFUSED:
            handed_in = copy.deepcopy(given)
            with self.assertRaises(OpenError, msg=function.__name__):
                function(*handed_in)
            self.assertEqual(handed_in, given, function.__name__)

    def test_a_change_of_what_was_told_changes_no_later_answer(self):
        for function, given in ASKED:
            first = function(*copy.deepcopy(given))
            kept = copy.deepcopy(first)
            spoil(first)
            self.assertEqual(function(*copy.deepcopy(given)), kept, function.__name__)

    def test_what_was_told_is_not_what_was_handed_in(self):
        for function, given in ASKED:
            handed_in = copy.deepcopy(given)
            answer = function(*handed_in)
            kept = copy.deepcopy(answer)
            spoil(handed_in)
            self.assertEqual(answer, kept, function.__name__)
            self.assertEqual(function(*copy.deepcopy(given)), kept, function.__name__)

    def test_no_list_is_told_twice_in_one_answer(self):
        for function, given in ASKED:
            lists = lists_in(function(*copy.deepcopy(given)))
            self.assertEqual(len({id(inner) for inner in lists}), len(lists), function.__name__)

    def test_nothing_asked_in_between_changes_an_answer(self):
        chance = random.Random(2)
        answers = [function(*copy.deepcopy(given)) for function, given in ASKED]
        kept = copy.deepcopy(answers)
        for place in [chance.randrange(len(ASKED)) for _ in range(300)]:
            function, given = ASKED[place]
            self.assertEqual(function(*copy.deepcopy(given)), kept[place], function.__name__)
        self.assertEqual(answers, kept)

    def test_numbers_told_are_no_truths(self):
        for function, given in ASKED:
            answer = function(*copy.deepcopy(given))
            if function not in (is_prime, is_table, fits, bars):
                for leaf in leaves_of(answer):
                    self.assertIn(type(leaf), (int, str, type(None)), function.__name__)
            else:
                self.assertIsInstance(answer, bool)


class ThePromise(LinesCase):
    def test_open_with_multipliers_or_shut_with_a_turn(self):
        chance = random.Random(3)
        for seed in range(60):
            table = some_table(seed, (2, 3, 97)[seed % 3], 1 + seed % 5, seed % 9, 4)
            p, wide, rows = table
            for hands in all_sets(4):
                found = opens(table, hands)
                own = rows_of(table, hands)
                filling = some_filling(chance, table)
                seen = parts(table, filling)
                if found[0] == "open":
                    self.assertEqual(square_sum(p, found[1], [seen[row] for row in own]), filling[0])
                else:
                    other = tuple(added(p, filling, found[1]))
                    moved = parts(table, other)
                    self.assertNotEqual(other[0], filling[0])
                    self.assertEqual([moved[row] for row in own], [seen[row] for row in own])
                    shown = [part if row in own else None for row, part in enumerate(seen)]
                    self.assertEqual(len(set(how_often(table, shown))), 1)

    def test_rules_and_tables_turned_about_open_for_just_the_sets_that_bar(self):
        chance = random.Random(33)
        for _ in range(60):
            rule = some_rule(chance, 3, 8, 5)
            table = table_of(13, rule)
            by_rule, by_table = table_of(13, turned_rule(rule)), turned_table(table)
            for hands in all_sets(5):
                barred = bars(table, 5, hands)
                self.assertEqual(opens_plainly(table, hands), fits(rule, hands))
                self.assertEqual(fits(turned_rule(rule), hands), barred)
                self.assertEqual(opens(by_rule, hands)[0] == "open", barred)
                self.assertEqual(opens(by_table, hands)[0] == "open", barred)
            self.assertIsNone(alike(by_rule, by_table, 5))

    def test_the_least_that_bar_are_told_by_the_greatest_that_do_not_open(self):
        for seed in range(60):
            table = some_table(seed, (2, 3, 97)[seed % 3], 1 + seed % 3, 1 + seed % 8, 4)
            if opens_plainly(table, range(4)):
                least, greatest = open_sets(table, 4)
                turned = open_sets(turned_table(table), 4)
                others = [[hand for hand in range(4) if hand not in hands] for hands in greatest]
                self.assertEqual(turned[0], sorted(others))

    def test_alike_or_a_set_that_opens_in_just_one(self):
        met = set()
        for seed in range(80):
            one = some_table(seed, (2, 3, 97)[seed % 3], 1 + seed % 3, seed % 7, 3)
            other = some_table(seed + 500, (5, 2)[seed % 2], 1 + seed % 2, seed % 5, 3)
            found = alike(one, other, 3)
            met.add(found is None)
            if found is None:
                self.assertEqual(open_sets(one, 3), open_sets(other, 3))
            else:
                hands, which, multipliers, turn = found
                opened, shut = (one, other)[which], (other, one)[which]
                self.are_multipliers(opened[0], multipliers, lines_of(opened, hands),
                                     unit_line(opened[1]))
                self.is_turn(shut[0], shut[1], turn, lines_of(shut, hands))
        self.assertEqual(met, {True, False})

    def test_a_way_through_the_whole(self):
        table = table_of(11, read_rule("2 of (a, b, c)"))
        filling, chances = (3, 5), [4]
        seen = parts(table, filling)
        fresh = renewed(table, seen, chances)
        found = opens(table, [0, 2])
        other = turned_table(table_of(11, read_rule("all (d, e)")))
        for some in (seen, fresh):
            own = [some[row] for row in rows_of(table, [0, 2])]
            self.assertEqual(comes_to(11, found[1], own), 3)
            on = handed_on(table, [0, 2], found[1], own, other, [[1] * (other[1] - 1)] * 2)
            for hand in (3, 4):
                shown = [part if row[0] == hand else None for part, row in zip(on, other[2])]
                self.assertEqual(told(other, read_seen(11, show_seen(shown)))[:2], ("one", 3))
        self.assertEqual(read_table(show_table(trimmed(table, 5))), table)
        self.assertEqual(idle(table, 5), [3, 4])


class NothingElse(unittest.TestCase):
    def test_the_same_is_answered_by_a_desk_and_without(self):
        chance = random.Random(9)
        for _ in range(30):
            rule = some_rule(chance, 2, 6, 4)
            desk = Desk()
            desk.say(f"rule a 13 {show_rule(rule)}")
            table = table_of(13, rule)
            self.assertEqual(desk.say("show a"), show_table(table))
            desk.say("turn b a")
            self.assertEqual(desk.say("show b"), show_table(turned_table(table)))
            desk.say("trim b a")
            many = 1 + max(hands_in(rule))
            self.assertEqual(desk.say("show b"), show_table(trimmed(table, many)))
            self.assertEqual(desk.say(f"alike a b {many}"), "yes")


if __name__ == "__main__":
    unittest.main()
