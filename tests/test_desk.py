import random
import re
import unittest

from fewopen.compare import alike
from fewopen.desk import Desk
from fewopen.errors import NoFit, NoName, NoRow, NoRule, NoText, OpenError, TooMany
from fewopen.mixes import products
from fewopen.rules import read_rule
from fewopen.sets import open_sets
from fewopen.tables import table_of
from fewopen.texts import show_table
from helper import (PRIMES, LinesCase, all_sets, lines_of, opens_plainly, rank, some_seen,
                    some_table, square_sum, sum_of_lines, unit_line)

LETTERS = "abcdefghij"
ROWS = {"table": "A T", "rule": "A P T", "show": "B", "open": "B H", "told": "B T", "sets": "B N",
        "products": "B H", "turn": "A B", "trim": "A B", "alike": "B B N"}
TABLES = {
    "two": "11; 2; a 1 1; b 1 2; c 1 3",
    "eight": "11; 1; h 3",
    "ten": "7; 1; a 0; j 1",
    "none": "7; 3",
    "shut": "7; 2; a 1 1; a 2 2",
    "long": "5; 1" + "; a 1" * 13,
    "wide": "5; 6; a 1 0 0 0 0 0; b 0 1 0 0 0 0",
    "idle": "5; 2; a 1 0; b 0 1; c 3 0",
}


def numbers_in(words):
    return [int(word) for word in words]


def word_of(hands):
    return "".join(LETTERS[hand] for hand in hands) or "-"


def desk_of(tables):
    desk = Desk()
    for name, text in tables.items():
        assert desk.say(f"table {name} {text}") == "ok"
    return desk


def greatest_hand(table):
    return max([hand for hand, line in table[2]], default=0)


def words_plainly(row):
    """The words of a row that is as one of the list, parted by the words of the document, or None."""
    if not isinstance(row, str):
        return None
    for first, shape in ROWS.items():
        parts = {"A": "([a-z]{1,8})", "B": "([a-z]{1,8})", "P": "([^ ]+)", "H": "([^ ]+)",
                 "N": "([^ ]+)", "T": "(.*)"}
        pattern = " ".join([first] + [parts[kind] for kind in shape.split()])
        found = re.fullmatch(pattern, row, re.DOTALL)
        if found:
            return [first, *found.groups()]
    return None


def is_plain_number(word):
    return re.fullmatch(r"0|[1-9][0-9]*", word) is not None


def seen_plainly(table, text):
    words = text.split(" ") if text else []
    return len(words) == len(table[2]) and all(
        word == "-" or (is_plain_number(word) and int(word) < table[0]) for word in words)


def word_refusal(kind, word, tables, first):
    """What a word of this kind is refused with by itself, tables being those the row names."""
    if kind == "P":
        return None if is_plain_number(word) and int(word) in PRIMES else NoText
    if kind == "H":
        return None if word == "-" or (word and list(word) == sorted(set(word))
                                       and set(word) <= set(LETTERS)) else NoText
    if kind == "N":
        least = max([1] + [greatest_hand(table) + 1 for table in tables])
        return None if is_plain_number(word) and least <= int(word) <= 8 else NoText
    if kind == "T" and first == "told":
        return None if seen_plainly(tables[0], word) else NoText
    return None


def refusal_plainly(kept, row):
    """(error class, name) that a row is refused with ahead of what is asked; texts of tables and
    rules aside. kept holds the tables by their names."""
    words = words_plainly(row)
    if words is None:
        return (NoRow, None)
    kinds = ROWS[words[0]].split()
    for kind, word in zip(kinds, words[1:]):
        if kind == "B" and word not in kept:
            return (NoName, word)
    tables = [kept[word] for kind, word in zip(kinds, words[1:]) if kind == "B"]
    for kind, word in zip(kinds, words[1:]):
        refusal = word_refusal(kind, word, tables, words[0])
        if refusal:
            return (refusal, None)
    return None


class DeskCase(LinesCase):
    def refused(self, desk, row, kind, name=None):
        before = dict(self.shown(desk))
        with self.assertRaises(OpenError, msg=row) as caught:
            desk.say(row)
        self.assertIs(type(caught.exception), kind, row)
        if kind is NoName:
            self.assertEqual(caught.exception.name, name)
        self.assertEqual(self.shown(desk), before)

    def shown(self, desk, names=(*TABLES, "a", "b", "fresh")):
        """All that stands at the desk by these names."""
        found = {}
        for name in names:
            try:
                found[name] = desk.say(f"show {name}")
            except NoName:
                pass
        return found

    def says(self, desk, row, text):
        answer = desk.say(row)
        self.assertIs(type(answer), str)
        self.assertEqual(answer, text)


class Rows(DeskCase):
    def test_told_ones(self):
        desk = Desk()
        for row, text in (
                ("rule two 11 2 of (a, b, c)", "ok"),
                ("show two", "11; 2; a 1 1; b 1 2; c 1 3"),
                ("told two 8 - 7", "one 3"),
                ("sets two 3", "ab ac bc | a b c"),
                ("sets two 4", "ab ac bc | ad bd cd"),
                ("products two abc", "open"),
                ("products two ab", "shut"),
                ("turn other two", "ok"),
                ("alike two other 3", "yes"),
                ("table x 5; 1; a 1", "ok"),
                ("alike two x 3", "no a"),
                ("alike x two 8", "no a"),
                ("sets x 1", "a | -"),
                ("open x a", "open 1"),
                ("open x ab", "open 1"),
                ("open x -", "shut 1"),
                ("open x b", "shut 1"),
                ("trim x two", "ok"),
                ("show x", "11; 2; a 1 1; b 1 2; c 1 3")):
            self.says(desk, row, text)

    def test_table(self):
        desk = Desk()
        for seed in range(30):
            table = some_table(seed, PRIMES[seed % 25], 1 + seed % 12, seed % 25)
            self.says(desk, f"table a {show_table(table)}", "ok")
            self.says(desk, "show a", show_table(table))

    def test_rule(self):
        desk = Desk()
        for p, text in ((2, "a"), (5, "all (a, b, c)"), (97, "2 of (j, all (b, c), one (d, a))")):
            self.says(desk, f"rule a {p} {text}", "ok")
            self.says(desk, "show a", show_table(table_of(p, read_rule(text))))

    def test_open(self):
        met = set()
        for seed in range(40):
            table = some_table(seed, (2, 3, 97)[seed % 3], 1 + seed % 4, seed % 9, 5)
            desk = desk_of({"a": show_table(table)})
            for hands in all_sets(6):
                words = desk.say(f"open a {word_of(hands)}").split(" ")
                lines = lines_of(table, hands)
                met.add(words[0])
                if opens_plainly(table, hands):
                    self.assertEqual(words[0], "open")
                    self.are_multipliers(table[0], numbers_in(words[1:]), lines,
                                         unit_line(table[1]))
                else:
                    self.assertEqual(words[0], "shut")
                    self.is_turn(table[0], table[1], tuple(numbers_in(words[1:])), lines)
        self.assertEqual(met, {"open", "shut"})

    def test_told(self):
        chance, met = random.Random(29), set()
        for seed in range(200):
            table = some_table(seed, (2, 3, 97)[seed % 3], 1 + seed % 4, seed % 9)
            p, wide, rows = table
            desk = desk_of({"a": show_table(table)})
            seen = some_seen(chance, table)
            text = " ".join("-" if part is None else str(part) for part in seen)
            words = desk.say(f"told a {text}").split(" ")
            met.add(words[0])
            lines = [row[1] for row, part in zip(rows, seen) if part is not None]
            parts = [part for part in seen if part is not None]
            behind = [line + (part,) for line, part in zip(lines, parts)]
            if rank(p, behind) > rank(p, lines):
                self.assertEqual(words[0], "none")
                self.assertEqual(len(words), 1 + len(lines))
                self.assertEqual(sum_of_lines(p, wide + 1, numbers_in(words[1:]), behind),
                                 unit_line(wide + 1, wide))
            elif rank(p, lines + [unit_line(wide)]) > rank(p, lines):
                self.assertEqual(words[0], "any")
                self.is_turn(p, wide, tuple(numbers_in(words[1:])), lines)
            else:
                self.assertEqual((words[0], len(words)), ("one", 2))
                number = int(words[1])
                self.assertTrue(0 <= number < p)
                with_it = behind + [unit_line(wide) + (number,)]
                self.assertEqual(rank(p, with_it), rank(p, lines))
        self.assertEqual(met, {"none", "one", "any"})

    def test_told_of_a_table_of_no_rows(self):
        desk = desk_of(TABLES)
        self.says(desk, "told none ", "any 1 0 0")
        self.refused(desk, "told none", NoRow)
        self.refused(desk, "told none  ", NoText)
        self.refused(desk, "told none -", NoText)

    def test_sets(self):
        for seed in range(40):
            many = 1 + seed % 5
            table = some_table(seed, (2, 3, 97)[seed % 3], 1 + seed % 3, seed % 9, many)
            least, greatest = open_sets(table, many)
            text = "{} | {}".format(" ".join(map(word_of, least)), " ".join(map(word_of, greatest)))
            self.says(desk_of({"a": show_table(table)}), f"sets a {many}", text)

    def test_sets_of_none(self):
        desk = desk_of(TABLES)
        self.says(desk, "sets none 2", " | ab")
        self.says(desk, "sets none 1", " | a")
        self.says(desk, "sets shut 8", " | abcdefgh")
        self.says(desk, "sets eight 8", "h | abcdefg")

    def test_products(self):
        for seed in range(60):
            table = some_table(seed, (2, 3, 97)[seed % 3], 1 + seed % 3, seed % 7, 4)
            desk = desk_of({"a": show_table(table)})
            for hands in all_sets(4):
                self.says(desk, f"products a {word_of(hands)}", products(table, hands)[0])

    def test_turn(self):
        desk = desk_of(TABLES)
        self.says(desk, "rule a 7 one (d, all (a, c), all (a, b))", "ok")
        self.says(desk, "turn fresh a", "ok")
        self.says(desk, "sets fresh 4", "ad bcd | abc bd cd")
        words = desk.say("show fresh").split("; ")
        self.assertEqual([words[0]] + [word[0] for word in words[2:]], ["7", "d", "a", "c", "a", "b"])
        self.says(desk, "turn two a", "ok")
        self.says(desk, "show two", desk.say("show fresh"))

    def test_turn_by_its_own_name(self):
        desk = desk_of(TABLES)
        self.says(desk, "rule a 7 all (a, b)", "ok")
        self.says(desk, "turn a a", "ok")
        self.says(desk, "sets a 2", "a b | -")
        self.says(desk, "turn a a", "ok")
        self.says(desk, "sets a 2", "ab | a b")

    def test_trim(self):
        desk = desk_of(TABLES)
        for row, name, text in (("trim fresh idle", "fresh", "5; 2; a 1 0; c 3 0"),
                                ("trim idle idle", "idle", "5; 2; a 1 0; c 3 0"),
                                ("trim fresh none", "fresh", "7; 3"),
                                ("trim fresh shut", "fresh", "7; 2"),
                                ("trim fresh eight", "fresh", "11; 1; h 3"),
                                ("trim fresh two", "fresh", TABLES["two"])):
            self.says(desk, row, "ok")
            self.says(desk, f"show {name}", text)
        self.says(desk, "show two", TABLES["two"])

    def test_alike(self):
        met = set()
        for seed in range(80):
            many = 1 + seed % 4
            one = some_table(seed, (2, 3, 97)[seed % 3], 1 + seed % 3, seed % 5, many)
            other = some_table(seed + 77, (2, 5)[seed % 2], 1 + seed % 2, seed % 4, many)
            found = alike(one, other, many)
            text = "yes" if found is None else f"no {word_of(found[0])}"
            met.add(text[:2])
            desk = desk_of({"a": show_table(one), "b": show_table(other)})
            self.says(desk, f"alike a b {many}", text)
            self.says(desk, f"alike b a {many}", text)
            self.says(desk, f"alike a a {many}", "yes")
        self.assertEqual(met, {"ye", "no"})

    def test_a_table_takes_the_place_of_another(self):
        desk = desk_of(TABLES)
        self.says(desk, "table two 5; 1", "ok")
        self.says(desk, "show two", "5; 1")
        self.says(desk, "rule two 7 a", "ok")
        self.says(desk, "show two", "7; 1; a 1")

    def test_a_table_turned_about_stays_when_the_first_is_changed(self):
        desk = desk_of(TABLES)
        self.says(desk, "turn fresh two", "ok")
        before = desk.say("show fresh")
        self.says(desk, "table two 5; 1", "ok")
        self.says(desk, "show fresh", before)

    def test_two_desks(self):
        one, other = Desk(), Desk()
        self.says(one, "table a 5; 1", "ok")
        self.refused(other, "show a", NoName, "a")
        self.says(other, "table a 7; 2", "ok")
        self.says(one, "show a", "5; 1")
        self.says(other, "show a", "7; 2")
        self.refused(Desk(), "show a", NoName, "a")


class Names(DeskCase):
    def test_names(self):
        desk = Desk()
        for name in ("a", "z", "q", "table", "show", "ok", "abcdefgh", "zzzzzzzz", "rule", "text"):
            self.says(desk, f"table {name} 5; 1", "ok")
            self.says(desk, f"show {name}", "5; 1")

    def test_what_is_no_name(self):
        desk = desk_of(TABLES)
        for word in ("abcdefghi", "abcdefghijklmnop", "A", "Two", "tWo", "two1", "1", "-", "t_o",
                     "tw\u00f6", "\u00e4", "two\n", "\ntwo", "two\t", "t.", "", "\uff41", "\u00df"):
            for row in (f"table {word} 5; 1", f"rule {word} 5 a", f"show {word}",
                        f"open {word} a", f"told {word} - - -", f"sets {word} 3",
                        f"products {word} a", f"turn {word} two", f"turn two {word}",
                        f"trim {word} two", f"trim two {word}", f"alike {word} two 3",
                        f"alike two {word} 3"):
                self.refused(desk, row, NoRow)

    def test_nothing_stands_by_the_name(self):
        desk = desk_of(TABLES)
        for row, name in (("show fresh", "fresh"), ("open fresh a", "fresh"), ("told fresh ", "fresh"),
                          ("sets fresh 3", "fresh"), ("products fresh a", "fresh"),
                          ("turn two fresh", "fresh"), ("turn fresh fresh", "fresh"),
                          ("turn fresh other", "other"), ("trim fresh other", "other"),
                          ("trim two other", "other"), ("alike fresh two 3", "fresh"),
                          ("alike two fresh 3", "fresh"), ("alike fresh other 3", "fresh"),
                          ("alike other fresh 3", "other"), ("show tw", "tw"), ("show twoo", "twoo")):
            self.refused(desk, row, NoName, name)

    def test_what_was_refused_stands_by_no_name(self):
        desk = Desk()
        for row in ("table a 5", "rule a 4 a", "rule a 5 k", "rule a 2 all (a, b)", "turn a b"):
            with self.assertRaises(OpenError):
                desk.say(row)
            self.refused(desk, "show a", NoName, "a")


class NoRows(DeskCase):
    def test_what_is_no_text(self):
        desk = desk_of(TABLES)
        for thing in (None, True, 0, 7, b"show two", ["show", "two"], ("show", "two"), {}, 1.5, []):
            self.refused(desk, thing, NoRow)

    def test_another_first_word(self):
        desk = desk_of(TABLES)
        for row in ("", " ", "tables two", "Show two", "SHOW two", "two", "show\ttwo", "show\n two",
                    "opens two a", "shut two a", "ok", "-", "shows two", "sho two", "tabl a 5; 1",
                    " show two", "\nshow two", "table\u00a0a 5; 1", "trimmed a two", "set two 3"):
            self.refused(desk, row, NoRow)

    def test_too_few_words(self):
        desk = desk_of(TABLES)
        for row in ("table", "table ", "table a", "rule", "rule a", "rule a 5", "show", "open",
                    "open two", "told", "told two", "sets", "sets two", "products", "products two",
                    "turn", "turn a", "trim", "trim a", "alike", "alike two", "alike two two"):
            self.refused(desk, row, NoRow)

    def test_too_many_words(self):
        desk = desk_of(TABLES)
        for row in ("show two two", "open two a b", "sets two 3 3", "products two a b",
                    "turn a two two", "trim a two 3", "alike two two 3 3", "alike two two two 3"):
            self.refused(desk, row, NoRow)

    def test_a_word_of_no_signs(self):
        desk = desk_of(TABLES)
        for row in ("show ", "show  two", "show two ", " show two", "open  two a", "open two  a",
                    "open two a ", "open two ", "told  two - - -", "sets two ", "sets two  3",
                    "sets two 3 ", "products two ", "products two  abc", "turn  a two",
                    "turn a  two", "turn a two ", "turn a ", "trim a ", "trim a  two",
                    "trim a two ", "alike two  two 3", "alike two two  3", "alike two two 3 ",
                    "alike two two ", "alike  two 3", "table  5; 1", "table  a 5; 1",
                    "rule  5 a", "rule  a 5 a", "rule a  5 a", "rule a  a"):
            self.refused(desk, row, NoRow)

    def test_in_the_text_blanks_are_its_own(self):
        desk = desk_of(TABLES)
        for row, kind in (("table a ", NoText), ("table a  5; 1", NoText), ("table a 5; 1 ", NoText),
                          ("rule a 5 ", NoRule), ("rule a 5  a", NoRule), ("rule a 5 a ", NoRule),
                          ("told two ", NoText), ("told two  - - -", NoText),
                          ("told two - - - ", NoText), ("told two -  - -", NoText)):
            self.refused(desk, row, kind)


class WrongWords(DeskCase):
    def test_no_table(self):
        desk = desk_of(TABLES)
        for text in ("", "5", "5; 0", "4; 1", "5; 13", "5; 1; k 1", "5; 1; a 5", "5; 1; a 01",
                     "05; 1", "5; 1; a 1 1", "5; 1; a", "5; 1" + "; a 1" * 25, "two", "5;1"):
            self.refused(desk, f"table a {text}", NoText)
            self.refused(desk, f"table two {text}", NoText)

    def test_no_p(self):
        desk = desk_of(TABLES)
        for word in ("0", "1", "4", "9", "98", "99", "101", "-", "-5", "05", "+5", "5.0", "x", "\u0665",
                     "5;", "5\n", "five", "9" * 70, "7" * 5000):
            self.refused(desk, f"rule a {word} a", NoText)

    def test_no_rule(self):
        desk = desk_of(TABLES)
        for text in ("", "k", "A", "a b", "(a)", "all ()", "3 of (a, b)", "1 of (a, b)", "a, b", "-",
                     "all (a,b)", "all (a, b", "one (a)"):
            self.refused(desk, f"rule a 5 {text}", NoRule)

    def test_no_set_of_hands(self):
        desk = desk_of(TABLES)
        for word in ("ba", "aa", "k", "abk", "A", "0", "a,b", "--", "a-", "-a", "acb", "abca", "a\n",
                     "abcdefghijk", "\u00e4", "[]"):
            self.refused(desk, f"open two {word}", NoText)
            self.refused(desk, f"products two {word}", NoText)
        for word in ("-", "a", "j", "aj", "abcdefghij", "ij"):
            self.assertIn(desk.say(f"open two {word}").split(" ")[0], ("open", "shut"))

    def test_no_number(self):
        desk = desk_of(TABLES)
        for word in ("0", "9", "10", "-1", "03", "+3", "3.0", "x", "-", "three", "\u0663", "3\n",
                     "9" * 61, "8" * 5000):
            self.refused(desk, f"sets two {word}", NoText)
            self.refused(desk, f"alike two two {word}", NoText)

    def test_fewer_than_the_greatest_hand_and_one(self):
        desk = desk_of(TABLES)
        for name, least in (("two", 3), ("eight", 8), ("none", 1), ("shut", 1), ("wide", 2)):
            for number in range(0, 10):
                if least <= number <= 8:
                    desk.say(f"sets {name} {number}")
                    self.says(desk, f"alike {name} {name} {number}", "yes")
                else:
                    self.refused(desk, f"sets {name} {number}", NoText)
                    self.refused(desk, f"alike {name} {name} {number}", NoText)

    def test_for_both_tables(self):
        desk = desk_of(TABLES)
        for row in ("alike two eight 7", "alike eight two 7", "alike none two 2", "alike two none 2",
                    "alike shut wide 1", "alike wide shut 1"):
            self.refused(desk, row, NoText)
        self.says(desk, "alike two eight 8", "no ab")
        self.says(desk, "alike none shut 1", "yes")

    def test_hands_beyond_eight(self):
        desk = desk_of(TABLES)
        for number in range(0, 12):
            self.refused(desk, f"sets ten {number}", NoText)
            self.refused(desk, f"alike ten two {number}", NoText)
            self.refused(desk, f"alike two ten {number}", NoText)
        self.says(desk, "open ten j", "open 1")

    def test_no_seen_numbers_of_the_table(self):
        desk = desk_of(TABLES)
        for text in ("", "-", "- -", "- - - -", "11 - -", "- - 11", "01 - -", "x - -", "-1 - -",
                     "- - -\n", "8-7", "8, -, 7"):
            self.refused(desk, f"told two {text}", NoText)


class AsWhatIsAskedRefuses(DeskCase):
    def test_rule(self):
        desk = desk_of(TABLES)
        for row in ("rule a 2 all (a, b)", "rule a 3 2 of (a, b, c)", "rule two 3 all (a, b, c)",
                    "rule a 97 all (all (a, b, c, d, e, f, g, h), all (a, b, c, d, e, f))"):
            self.refused(desk, row, TooMany)

    def test_products(self):
        desk = desk_of(TABLES)
        self.refused(desk, "products wide a", TooMany)
        self.refused(desk, "products long a", TooMany)
        self.says(desk, "products long b", "shut")

    def test_turn(self):
        desk = desk_of(TABLES)
        self.refused(desk, "turn fresh long", TooMany)
        self.refused(desk, "turn two long", TooMany)
        for name in ("shut", "none"):
            self.refused(desk, f"turn fresh {name}", NoFit)
            self.refused(desk, f"turn two {name}", NoFit)

    def test_trim(self):
        desk = desk_of(TABLES)
        self.refused(desk, "trim fresh ten", TooMany)
        self.refused(desk, "trim ten ten", TooMany)
        for letter in "ij":
            self.says(desk, f"table a 5; 1; {letter} 1; a 0", "ok")
            self.refused(desk, "trim fresh a", TooMany)


class WhichIsFirst(DeskCase):
    def test_no_row_ahead_of_all(self):
        desk = desk_of(TABLES)
        for row in ("alike fresh Two 3", "alike fresh two", "show fresh two", "open fresh ",
                    "alike other  3", "rule a  k", "rule A 4 k", "table A k", "turn A fresh",
                    "sets fresh 9 9", "told Two k", "turn fresh other x"):
            self.refused(desk, row, NoRow)

    def test_no_name_ahead_of_the_words(self):
        desk = desk_of(TABLES)
        for row, name in (("open fresh ba", "fresh"), ("told fresh x", "fresh"),
                          ("sets fresh 9", "fresh"), ("products fresh k", "fresh"),
                          ("alike two fresh 0", "fresh"), ("alike ten fresh 8", "fresh"),
                          ("alike fresh two x", "fresh")):
            self.refused(desk, row, NoName, name)

    def test_the_words_from_the_left(self):
        desk = desk_of(TABLES)
        self.refused(desk, "rule a 4 k", NoText)
        self.refused(desk, "rule a x ", NoText)
        self.refused(desk, "rule a 5 k", NoRule)
        self.refused(desk, "rule a 4 a", NoText)

    def test_the_words_ahead_of_what_is_asked(self):
        desk = desk_of(TABLES)
        self.refused(desk, "products wide ba", NoText)
        self.refused(desk, "products long aa", NoText)
        self.refused(desk, "rule a 2 all (a, b", NoRule)
        self.refused(desk, "rule a 4 all (a, b, c, d, e)", NoText)
        self.refused(desk, "turn a long", TooMany)


class ChanceRows(DeskCase):
    WORDS = {"A": ("two", "fresh", "Two", "a", ""), "B": ("two", "none", "eight", "two", "fresh", "B"),
             "P": ("5", "11", "4", "05", "x", ""), "H": ("-", "a", "ab", "ba", "k", ""),
             "N": ("3", "8", "1", "9", "03", "x", ""),
             "T": ("8 - 7", "", "- - -", "5; 1; a 1", "a", "all (a, b)", "- -", " ", "k")}

    def some_row(self, chance):
        first = chance.choice(sorted(ROWS))
        words = [first] + [chance.choice(self.WORDS[kind]) for kind in ROWS[first].split()]
        way = chance.randrange(8)
        if way == 0:
            words.pop(chance.randrange(len(words)))
        if way == 1:
            words.insert(chance.randrange(len(words) + 1), chance.choice(("", "a", "two")))
        return " ".join(words)

    def test_refused_as_the_document_says(self):
        chance = random.Random(2)
        kept = {"two": (11, 2, ((0, (1, 1)), (1, (1, 2)), (2, (1, 3)))), "none": (7, 3, ()),
                "eight": (11, 1, ((7, (3,)),))}
        met = {}
        for _ in range(3000):
            row = self.some_row(chance)
            desk = desk_of({name: TABLES[name] for name in kept})
            expected = refusal_plainly(kept, row)
            if expected:
                self.refused(desk, row, *expected)
                met[expected[0]] = met.get(expected[0], 0) + 1
            else:
                self.answered(desk, row)
                met[None] = met.get(None, 0) + 1
        self.assertEqual(set(met), {NoRow, NoName, NoText, None})
        self.assertGreater(min(met.values()), 150)

    def answered(self, desk, row):
        first = row.split(" ")[0]
        before = self.shown(desk)
        try:
            answer = desk.say(row)
        except OpenError as error:
            self.assertIn((first, type(error)), (
                ("table", NoText), ("rule", NoRule), ("rule", TooMany), ("turn", NoFit)), row)
            self.assertEqual(self.shown(desk), before)
            return
        if first in ("table", "rule", "turn", "trim"):
            self.assertEqual(answer, "ok")
        else:
            self.assertEqual(self.shown(desk), before)
            self.assertRegex(answer, {
                "show": r"^\d+; \d+(; [a-j]( \d+)+)*$", "open": r"^(open|shut)( \d+)+$",
                "told": r"^(one \d+|(none|any)( \d+)+)$", "sets": r"^([a-h ]*) \| ([a-h -]*)$",
                "products": r"^(open|shut)$", "alike": r"^(yes|no [a-h]+)$"}[first])


class WhatStands(DeskCase):
    def test_asking_changes_nothing(self):
        desk = desk_of(TABLES)
        before = self.shown(desk)
        for row in ("show two", "open two ab", "told two 8 - 7", "sets two 3", "products two abc",
                    "alike two none 3"):
            first = desk.say(row)
            self.assertEqual(desk.say(row), first)
            self.assertEqual(self.shown(desk), before)

    def test_no_other_table_is_changed(self):
        desk = desk_of(TABLES)
        before = self.shown(desk)
        for row in ("table fresh 5; 1", "rule fresh 7 a", "turn fresh two", "trim fresh idle"):
            self.says(desk, row, "ok")
            after = self.shown(desk)
            after.pop("fresh")
            self.assertEqual(after, before)

    def test_parts_come_to_the_hidden_number(self):
        desk = desk_of(TABLES)
        words = desk.say("open two bc").split(" ")
        self.assertEqual(square_sum(11, numbers_in(words[1:]), [2, 7]), 3)


if __name__ == "__main__":
    unittest.main()
