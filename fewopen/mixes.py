"""Reckoning with parts: added, scaled, and whether a set can tell products from its parts."""

from fewopen.errors import TooMany
from fewopen.lines import held, times
from fewopen.opening import hidden_line
from fewopen.tables import rows_of

MOST_WIDE = 5
MOST_ROWS = 12


def added(p, one, other):
    return [(left + right) % p for left, right in zip(one, other)]


def scaled(p, one, number):
    return times(p, number, one)


# Those of one hand, for only such a hand can multiply its parts by itself.
def pairs_of_rows(rows, numbers):
    pairs = []
    for i in numbers:
        pairs.extend([(i, j) for j in numbers if rows[j][0] == rows[i][0]])
    return pairs


# The number at place a times the other one's at place b stands at place a * width + b.
def crossed(one, other):
    line = []
    for left in one:
        line.extend([left * right for right in other])
    return tuple(line)


def as_form(wide, line):
    return tuple([tuple(line[wide * place:wide * (place + 1)]) for place in range(wide)])


# A product of two parts is what their crossed lines come to with the crossed fillings, and the
# product of the hidden numbers stands at the first place of those: so this opens like a table.
def products(table, hands):
    wide = table[1]
    rows = table[2]
    numbers = rows_of(table, hands)
    if wide > MOST_WIDE or len(numbers) > MOST_ROWS:
        raise TooMany("products are told up to a width of five and a set of twelve rows")
    pairs = pairs_of_rows(rows, numbers)
    lines = [crossed(rows[i][1], rows[j][1]) for i, j in pairs]
    found = held(table[0], wide * wide, lines, hidden_line(wide * wide))
    if found[0] == "turn":
        return ("shut", as_form(wide, found[1]))
    return ("open", [(pair[0], pair[1], number) for pair, number in zip(pairs, found[1]) if number != 0])
