"""Tables: what is one, the one made of a rule, the parts of a filling, the rows of a set."""

from fewopen.errors import TooMany
from fewopen.numbers import comes_to, is_prime, is_whole
from fewopen.rules import is_hand

MOST_WIDE = 12
MOST_ROWS = 24
GREATEST_HAND = 9


def is_from_to(thing, least, greatest):
    return is_whole(thing) and least <= thing <= greatest


def is_tuple_of(thing, many):
    return isinstance(thing, tuple) and len(thing) == many


def is_line(thing, p, width):
    return is_tuple_of(thing, width) and all([is_from_to(number, 0, p - 1) for number in thing])


def is_row(thing, p, wide):
    return is_tuple_of(thing, 2) and is_from_to(thing[0], 0, GREATEST_HAND) and is_line(thing[1], p, wide)


def is_table(thing):
    if not is_tuple_of(thing, 3):
        return False
    p = thing[0]
    wide = thing[1]
    rows = thing[2]
    if not is_prime(p) or not is_from_to(wide, 1, MOST_WIDE):
        return False
    if not isinstance(rows, tuple) or len(rows) > MOST_ROWS:
        return False
    return all([is_row(row, p, wide) for row in rows])


def parts(table, filling):
    return [comes_to(table[0], row[1], filling) for row in table[2]]


def rows_of(table, hands):
    return [number for number, row in enumerate(table[2]) if row[0] in hands]


# A k below 1 lies beyond the bounds, but must not give back places used already.
def own_places(some):
    return max(some[1] - 1, 0)


def places_taken(rule):
    if is_hand(rule):
        return 0
    return own_places(rule) + sum([places_taken(inner) for inner in rule[2]])


# From p rules on two of them would have one line, or one of them noughts at the some's places.
def is_crowded(p, rule):
    if is_hand(rule):
        return False
    if rule[1] > 1 and len(rule[2]) >= p:
        return True
    return any([is_crowded(p, inner) for inner in rule[2]])


# The line with number, number times number and so on at the places from first on.
def with_powers(p, line, first, many, number):
    fresh = list(line)
    power = 1
    for place in range(first, first + many):
        power = power * number % p
        fresh[place] = power
    return fresh


def rows_made(p, rule, line, unused):
    if is_hand(rule):
        return [(rule[1], tuple(line))]
    many = own_places(rule)
    rows = []
    inner_unused = unused + many
    for number, inner in enumerate(rule[2], start=1):
        rows.extend(rows_made(p, inner, with_powers(p, line, unused, many, number), inner_unused))
        inner_unused = inner_unused + places_taken(inner)
    return rows


def table_of(p, rule):
    wide = 1 + places_taken(rule)
    if wide > MOST_WIDE:
        raise TooMany("the table would be wider than twelve")
    if is_crowded(p, rule):
        raise TooMany("a some with a k above 1 has p rules or more")
    return (p, wide, tuple(rows_made(p, rule, [1] + [0] * (wide - 1), 1)))
