import copy
import random
import re
import unittest

from fewopen.errors import NoText, OpenError
from fewopen.rules import read_rule
from fewopen.tables import is_table, table_of
from fewopen.texts import read_seen, read_table, show_seen, show_table
from helper import PRIMES, some_table

NUMBER = re.compile(r"(0|[1-9][0-9]*)")
NO_TEXTS = (None, True, False, 0, 11, -1, b"11; 2", ["11; 2"], ("11", "2"), {}, (11, 2, ()), 1.5,
            object(), [], ())
# Each is a figure, or a number, by some reckoning of Python's own.
NO_NUMBERS = ("", "01", "00", "007", "+1", "-1", "1.0", "1_0", "1 ", " 1", "1\n", "\n1",
              "1\t", "0x1", "1e0", "\u0661", "\u00b2", "\uff11", "\u2160", "a", "--", "-0", "+0",
              "None", "1,", "9" * 61, "1" + "0" * 3000, "9" * 5000)


def table_plainly(text):
    """The table that a text writes, by the words of the document, or None."""
    pieces = text.split("; ")
    if len(pieces) < 2 or len(pieces) > 26:
        return None
    if not NUMBER.fullmatch(pieces[0]) or not NUMBER.fullmatch(pieces[1]):
        return None
    p, wide = int(pieces[0]), int(pieces[1])
    if p not in PRIMES or not 1 <= wide <= 12:
        return None
    rows = []
    for piece in pieces[2:]:
        if not re.fullmatch(r"[a-j]( (0|[1-9][0-9]*))*", piece):
            return None
        line = tuple(int(word) for word in piece[1:].split())
        if len(line) != wide or any(number >= p for number in line):
            return None
        rows.append((ord(piece[0]) - ord("a"), line))
    return (p, wide, tuple(rows))


def spoilt_text(chance, text):
    """The text with a sign put in, taken out or put in the place of another."""
    at = chance.randrange(len(text) + 1)
    sign = chance.choice("0123456789 ;,-ajkzA\n\t")
    way = chance.randrange(4)
    if way == 0:
        return text[:at] + sign + text[at:]
    if way == 1:
        return text[:at] + text[at + 1:]
    if way == 2:
        return text[:at] + sign + text[at + 1:]
    return text[:at] + text[at + 1:at + 2] + text[at:at + 1] + text[at + 2:]


class TextsCase(unittest.TestCase):
    def refused(self, ask):
        with self.assertRaises(OpenError) as caught:
            ask()
        self.assertIs(type(caught.exception), NoText)


class ShowTable(unittest.TestCase):
    def test_told_ones(self):
        for table, text in (
                ((11, 2, ((0, (1, 1)), (1, (1, 2)))), "11; 2; a 1 1; b 1 2"),
                ((2, 1, ()), "2; 1"),
                ((97, 12, ()), "97; 12"),
                ((97, 1, ((9, (96,)), (9, (0,)))), "97; 1; j 96; j 0"),
                ((3, 3, ((2, (0, 0, 0)), (0, (2, 1, 0)))), "3; 3; c 0 0 0; a 2 1 0")):
            shown = show_table(table)
            self.assertIs(type(shown), str)
            self.assertEqual(shown, text)

    def test_each_hand(self):
        for hand, letter in enumerate("abcdefghij"):
            self.assertEqual(show_table((5, 1, ((hand, (3,)),))), f"5; 1; {letter} 3")

    def test_somewhat_beyond(self):
        self.assertEqual(show_table((101, 0, ((10, ()), (11, ())))), "101; 0; k; l")


class ShowSeen(unittest.TestCase):
    def test_told_ones(self):
        for seen, text in (([], ""), ([None], "-"), ([0], "0"), ([8, None, 7], "8 - 7"),
                           ([None, None, 96], "- - 96"), ([10, 0, None], "10 0 -")):
            shown = show_seen(seen)
            self.assertIs(type(shown), str)
            self.assertEqual(shown, text)


class ReadTable(TextsCase):
    def no_table(self, text):
        self.refused(lambda: read_table(text))

    def test_told_ones(self):
        self.assertEqual(read_table("11; 2; a 1 1; b 1 2"), (11, 2, ((0, (1, 1)), (1, (1, 2)))))
        self.assertEqual(read_table("2; 1"), (2, 1, ()))
        self.assertEqual(read_table("97; 1; j 96; j 0; a 10"),
                         (97, 1, ((9, (96,)), (9, (0,)), (0, (10,)))))

    def test_what_is_written_is_read_as_it_was(self):
        for seed in range(300):
            p = PRIMES[seed % len(PRIMES)]
            table = some_table(seed, p, 1 + seed % 12, seed % 25)
            answer = read_table(show_table(table))
            self.assertEqual(answer, table)
            self.assertTrue(is_table(answer))
        table = table_of(13, read_rule("2 of (a, all (b, c), one (d, a))"))
        self.assertEqual(read_table(show_table(table)), table)

    def test_the_greatest_table(self):
        table = (97, 12, tuple((k % 10, (96,) * 12) for k in range(24)))
        self.assertEqual(read_table(show_table(table)), table)

    def test_each_p_and_no_other(self):
        for number in range(130):
            if number in PRIMES:
                self.assertEqual(read_table(f"{number}; 1; a 1"), (number, 1, ((0, (1,)),)))
            else:
                self.no_table(f"{number}; 1; a 1")
                self.no_table(f"{number}; 1")
        for word in NO_NUMBERS:
            self.no_table(f"{word}; 1; a 1")
        self.no_table("011; 1; a 1")

    def test_each_width_and_no_other(self):
        for wide in range(30):
            text = "7; {}; a{}".format(wide, " 1" * wide)
            if 1 <= wide <= 12:
                self.assertEqual(read_table(text), (7, wide, ((0, (1,) * wide),)))
                self.assertEqual(read_table(f"7; {wide}"), (7, wide, ()))
            else:
                self.no_table(text)
                self.no_table(f"7; {wide}")
        for word in NO_NUMBERS:
            self.no_table(f"7; {word}")
            self.no_table(f"7; {word}; a 1")

    def test_numbers_by_p_and_no_others(self):
        for p in (2, 3, 11, 97):
            for number in range(120):
                if number < p:
                    self.assertEqual(read_table(f"{p}; 2; a {number} 0")[2], ((0, (number, 0)),))
                else:
                    self.no_table(f"{p}; 2; a {number} 0")
                    self.no_table(f"{p}; 2; a 0 {number}")
        for word in NO_NUMBERS + ("-",):
            self.no_table(f"97; 1; a {word}")
            self.no_table(f"97; 2; a {word} 1")
            self.no_table(f"97; 2; a 1 1; b 1 {word}")

    def test_another_count_of_numbers(self):
        for text in ("7; 2; a 1", "7; 2; a 1 1 1", "7; 2; a", "7; 1; a 1 1", "7; 1; a",
                     "7; 2; a 1 1; b 1", "7; 2; a 1 1; b 1 1 1", "7; 2; a 1; b 1 1"):
            self.no_table(text)

    def test_hands(self):
        for word in ("k", "z", "A", "J", "ab", "aa", "", "0", "-", "1", "a;", "\u00e4", "\uff41"):
            self.no_table(f"7; 1; {word} 1")
        for hand, letter in enumerate("abcdefghij"):
            self.assertEqual(read_table(f"7; 1; {letter} 1"), (7, 1, ((hand, (1,)),)))

    def test_rows(self):
        for many in (0, 1, 23, 24):
            self.assertEqual(len(read_table("7; 1" + "; a 1" * many)[2]), many)
        for many in (25, 26, 40):
            self.no_table("7; 1" + "; a 1" * many)

    def test_blanks_and_signs_too_many_or_too_few(self):
        for text in (" 11; 2; a 1 1", "11; 2; a 1 1 ", "11;  2; a 1 1", "11; 2;  a 1 1",
                     "11; 2; a  1 1", "11; 2; a 1  1", "11 ; 2; a 1 1", "11; 2 ; a 1 1",
                     "11; 2; a 1 1 ; b 1 2", "11;2; a 1 1", "11; 2;a 1 1", "11; 2; a 1 1;b 1 2",
                     "11; 2; a1 1", "11; 2; a 11", "11; 2; a 1 1;", "11; 2; a 1 1; ", "11; 2;",
                     "11; 2; ", "; 11; 2", "11; 2; ; a 1 1", "11, 2, a 1 1", "11 2 a 1 1",
                     "11; 2; a 1, 1", "11; 2\n", "11; 2; a 1 1\n", "11;\n2", "11; 2; a\t1 1",
                     "11;\t2; a 1 1", "11; 2; a 1\u00a01", "\n11; 2", "11; 2; a 1 1; b 1 2;"):
            self.no_table(text)

    def test_no_text_at_all(self):
        for text in ("", " ", ";", "; ", "; ; ", "11", "11; ", "a", "a 1 1", "2; a 1", "-", "\n"):
            self.no_table(text)

    def test_what_is_no_text(self):
        for thing in NO_TEXTS:
            self.no_table(thing)

    def test_spoilt_texts(self):
        chance = random.Random(28)
        met = {True: 0, False: 0}
        for seed in range(1500):
            table = some_table(seed, chance.choice((2, 3, 11, 97)), 1 + seed % 4, seed % 5)
            text = spoilt_text(chance, show_table(table))
            expected = table_plainly(text)
            met[expected is None] += 1
            if expected is None:
                self.no_table(text)
            else:
                self.assertEqual(read_table(text), expected)
                self.assertEqual(show_table(expected), text)
        self.assertGreater(min(met.values()), 50)


class ReadSeen(TextsCase):
    def no_seen(self, p, text):
        self.refused(lambda: read_seen(p, text))

    def test_told_ones(self):
        for p, text, seen in ((11, "", []), (11, "-", [None]), (11, "0", [0]),
                              (11, "8 - 7", [8, None, 7]), (2, "0 1 -", [0, 1, None]),
                              (97, "- - 96", [None, None, 96])):
            answer = read_seen(p, text)
            self.assertIs(type(answer), list)
            self.assertEqual(answer, seen)

    def test_what_is_written_is_read_as_it_was(self):
        chance = random.Random(3)
        for seed in range(300):
            p = PRIMES[seed % len(PRIMES)]
            seen = [None if chance.random() < 0.4 else chance.randrange(p) for _ in range(seed % 30)]
            answer = read_seen(p, show_seen(seen))
            self.assertEqual(answer, seen)
            self.assertEqual([type(part) for part in answer], [type(part) for part in seen])

    def test_numbers_by_p_and_no_others(self):
        for p in (2, 3, 11, 97):
            for number in range(120):
                if number < p:
                    self.assertEqual(read_seen(p, f"{number}"), [number])
                else:
                    self.no_seen(p, f"{number}")
                    self.no_seen(p, f"- {number} 0")
        for word in NO_NUMBERS:
            if word:
                self.no_seen(97, word)
            self.no_seen(97, f"{word} 1")
            self.no_seen(97, f"1 - {word}")

    def test_blanks_too_many_or_too_few(self):
        for text in (" ", "  ", " 1", "1 ", "1  2", "- ", " -", "--", "1-", "-1", "1 -2", "1,2",
                     "1, 2", "1;2", "1; 2", "1\t2", "1\n", "\n", "- -\n"):
            self.no_seen(11, text)

    def test_what_is_no_text(self):
        for thing in NO_TEXTS + ([None], [1, 2]):
            self.no_seen(11, thing)

    def test_four_thousand_signs(self):
        self.assertEqual(read_seen(97, "- " * 1999 + "-"), [None] * 2000)
        self.assertEqual(read_seen(97, "96 " * 1332 + "96"), [96] * 1333)


class TheAskersOwn(unittest.TestCase):
    def test_what_is_handed_in_stays(self):
        table, seen = (11, 2, ((0, (1, 1)), (1, (1, 2)))), [8, None, 7]
        kept = copy.deepcopy((table, seen))
        show_table(table)
        show_seen(seen)
        self.assertEqual((table, seen), kept)

    def test_a_change_of_what_was_told_changes_nothing(self):
        for text, seen in (("8 - 7", [8, None, 7]), ("", [])):
            first = read_seen(11, text)
            first.append("spoilt")
            first[0] = "spoilt"
            self.assertEqual(read_seen(11, text), seen)

    def test_what_is_changed_behind_the_call_is_asked_anew(self):
        seen = [8, None]
        first = show_seen(seen)
        seen[1] = 0
        self.assertEqual((first, show_seen(seen)), ("8 -", "8 0"))


if __name__ == "__main__":
    unittest.main()
