"""Parts made anew, what two sets saw of them, and parts handed on to another table."""

from fewopen.errors import NoFit
from fewopen.lines import numbers_at
from fewopen.mixes import added, scaled
from fewopen.numbers import comes_to
from fewopen.opening import hidden_line, lines_at, opens
from fewopen.tables import parts, rows_of


def filling_of(number, chances):
    return (number,) + tuple(chances)


def renewed(table, some, chances):
    return added(table[0], some, parts(table, filling_of(0, chances)))


def seen_twice(table, ones, others):
    first = opens(table, ones)
    if first[0] == "open":
        return ("open", 0, first[1])
    second = opens(table, others)
    if second[0] == "open":
        return ("open", 1, second[1])
    return ("shut", first[1], second[1])


# The count is asked for by itself: numbers behind the last row's would else go unseen.
def are_multipliers(table, hands, multipliers):
    lines = lines_at(table, rows_of(table, hands))
    if len(multipliers) != len(lines):
        return False
    p = table[0]
    wide = table[1]
    told = [comes_to(p, multipliers, numbers_at(p, lines, place)) for place in range(wide)]
    return tuple(told) == hidden_line(wide)


def handed_on(table, hands, multipliers, some, other, chances):
    p = table[0]
    if other[0] != p:
        raise NoFit("the tables are by unlike p")
    if not are_multipliers(table, hands, multipliers):
        raise NoFit("by these multipliers the parts don't come to the hidden number")
    total = [0] * len(other[2])
    for multiplier, part, own in zip(multipliers, some, chances):
        total = added(p, total, scaled(p, parts(other, filling_of(part, own)), multiplier))
    return total
