"""A desk: it keeps tables by names, is told rows, and answers each by a text."""

from fewopen.compare import alike, trimmed
from fewopen.errors import NoName, NoRow, NoText, TooMany
from fewopen.mixes import products
from fewopen.opening import opens, told
from fewopen.rules import LETTERS, read_rule
from fewopen.sets import open_sets
from fewopen.tables import table_of
from fewopen.texts import (
    read_hands, read_number, read_p, read_seen, read_table, show_hands, show_table, show_words,
)
from fewopen.turned import turned_table

MOST_SIGNS = 8
MOST_MANY = 8
# What follows the first word: a fresh name, by which a table stands then, a name by which
# one stands already, a word, or a text, which is all the rest.
SHAPES = {
    "table": ("fresh", "text"),
    "rule": ("fresh", "word", "text"),
    "show": ("name",),
    "open": ("name", "word"),
    "told": ("name", "text"),
    "sets": ("name", "word"),
    "products": ("name", "word"),
    "turn": ("fresh", "name"),
    "trim": ("fresh", "name"),
    "alike": ("name", "name", "word"),
}


def is_name(word):
    return 1 <= len(word) <= MOST_SIGNS and all([sign in LETTERS for sign in word])


def can_stand(word, place):
    if place == "fresh" or place == "name":
        return is_name(word)
    return place == "text" or word != ""


def words_of(row):
    if not isinstance(row, str):
        raise NoRow("a row is a text")
    shape = SHAPES.get(row.partition(" ")[0])
    if shape is None:
        raise NoRow("no row begins so")
    # Blanks behind the last one ahead of a text are the text's own.
    words = row.split(" ", len(shape)) if shape[-1] == "text" else row.split(" ")
    if len(words) != 1 + len(shape):
        raise NoRow("the row has too few words or too many")
    if not all([can_stand(word, place) for word, place in zip(words[1:], shape)]):
        raise NoRow("a name is one to eight small letters, and no word is without signs")
    return words


def many_in(table):
    return max([row[0] + 1 for row in table[2]], default=1)


def read_many(word, tables):
    return read_number(word, max([many_in(table) for table in tables]), MOST_MANY)


def read_all_seen(table, text):
    seen = read_seen(table[0], text)
    if len(seen) != len(table[2]):
        raise NoText("what was seen is written with one for each row")
    return seen


def trimmed_by_itself(table):
    many = many_in(table)
    if many > MOST_MANY:
        raise TooMany("a table of more than eight hands is not trimmed")
    return trimmed(table, many)


def show_told(found):
    if found[0] == "one":
        return show_words(["one", found[1]])
    return show_words([found[0]] + list(found[1]))


def show_sets(found):
    least = show_words([show_hands(hands) for hands in found[0]])
    greatest = show_words([show_hands(hands) for hands in found[1]])
    return f"{least} | {greatest}"


def show_alike(found):
    if found is None:
        return "yes"
    return show_words(["no", show_hands(found[0])])


def table_made(words, tables):
    if words[0] == "table":
        return read_table(words[2])
    if words[0] == "rule":
        # On its own row, for the p is read, and refused, ahead of the rule.
        p = read_p(words[2])
        return table_of(p, read_rule(words[3]))
    if words[0] == "turn":
        return turned_table(tables[0])
    return trimmed_by_itself(tables[0])


def answer(words, tables):
    table = tables[0]
    if words[0] == "show":
        return show_table(table)
    if words[0] == "open":
        found = opens(table, read_hands(words[2]))
        return show_words([found[0]] + list(found[1]))
    if words[0] == "told":
        return show_told(told(table, read_all_seen(table, words[2])))
    if words[0] == "sets":
        return show_sets(open_sets(table, read_many(words[2], tables)))
    if words[0] == "products":
        return products(table, read_hands(words[2]))[0]
    return show_alike(alike(table, tables[1], read_many(words[3], tables)))


class Desk:
    def __init__(self):
        self.kept = {}

    def stands(self, name):
        if name not in self.kept:
            raise NoName(name)
        return self.kept[name]

    def say(self, row):
        words = words_of(row)
        shape = SHAPES[words[0]]
        tables = [self.stands(word) for word, place in zip(words[1:], shape) if place == "name"]
        if shape[0] == "fresh":
            self.kept[words[1]] = table_made(words, tables)
            return "ok"
        return answer(words, tables)
