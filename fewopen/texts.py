"""Tables, what was seen, sets of hands and numbers, written and read."""

from fewopen.errors import NoText
from fewopen.numbers import is_prime
from fewopen.rules import HANDS, LETTERS
from fewopen.tables import MOST_ROWS, MOST_WIDE

FIGURES = "0123456789"
# Whole numbers have no more, and Python refuses in its own way to read some thousand figures.
MOST_FIGURES = 60


def show_words(things):
    return " ".join([str(thing) for thing in things])


def show_row(row):
    return show_words([LETTERS[row[0]]] + list(row[1]))


def show_table(table):
    return "; ".join([str(table[0]), str(table[1])] + [show_row(row) for row in table[2]])


def show_seen(seen):
    return show_words(["-" if part is None else part for part in seen])


def show_hands(hands):
    if len(hands) == 0:
        return "-"
    return "".join([LETTERS[hand] for hand in hands])


# Python's own reading would let in signs, blanks, underscores and the figures of other scripts.
def is_number(word):
    if word == "" or len(word) > MOST_FIGURES:
        return False
    if word[0] == "0" and word != "0":
        return False
    return all([sign in FIGURES for sign in word])


def read_number(word, least, greatest):
    if not is_number(word) or not least <= int(word) <= greatest:
        raise NoText("a number is not written so, or not one that may stand there")
    return int(word)


def read_p(word):
    if not is_number(word) or not is_prime(int(word)):
        raise NoText("a p is a prime number from 2 to 97")
    return int(word)


def read_hand(word):
    if len(word) != 1 or word not in HANDS:
        raise NoText("a hand is written as one letter from a to j")
    return HANDS.index(word)


# Only as they would be written: so not twice, not falling, and none beyond j.
def read_hands(word):
    hands = [hand for hand, letter in enumerate(HANDS) if letter in word]
    if show_hands(hands) != word:
        raise NoText("a set of hands is written as rising letters from a to j, or as -")
    return hands


def read_row(p, wide, text):
    words = text.split(" ")
    if len(words) != 1 + wide:
        raise NoText("a row has a hand and as many numbers as the table is wide")
    return (read_hand(words[0]), tuple([read_number(word, 0, p - 1) for word in words[1:]]))


def read_table(text):
    if not isinstance(text, str):
        raise NoText("a table is written as a text")
    pieces = text.split("; ")
    if len(pieces) < 2 or len(pieces) > 2 + MOST_ROWS:
        raise NoText("a table has a p, a width and at most twenty-four rows")
    p = read_p(pieces[0])
    wide = read_number(pieces[1], 1, MOST_WIDE)
    return (p, wide, tuple([read_row(p, wide, piece) for piece in pieces[2:]]))


def read_part(p, word):
    if word == "-":
        return None
    return read_number(word, 0, p - 1)


def read_seen(p, text):
    if not isinstance(text, str):
        raise NoText("what was seen is written as a text")
    # An empty text has one word, of no signs; but what was seen of nothing has none.
    if text == "":
        return []
    return [read_part(p, word) for word in text.split(" ")]
