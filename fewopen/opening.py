"""Which sets open a table, and what is told of the parts that were seen."""

from fewopen.lines import held, unit
from fewopen.numbers import comes_to
from fewopen.tables import rows_of


def lines_at(table, numbers):
    return [table[2][number][1] for number in numbers]


# Not a unit: a table somewhat beyond the bounds may have no place 0 at all.
def hidden_line(wide):
    return tuple([1 if place == 0 else 0 for place in range(wide)])


def opened_by(table, numbers):
    found = held(table[0], table[1], lines_at(table, numbers), hidden_line(table[1]))
    if found[0] == "sum":
        return ("open", found[1])
    return ("shut", found[1])


def opens(table, hands):
    return opened_by(table, rows_of(table, hands))


def rows_seen(seen):
    return [number for number, part in enumerate(seen) if part is not None]


# The multipliers that show that no filling fits, or None. With each part put behind
# its line, they come to noughts and a 1; a turn against that would be a filling that fits.
def misfit(table, numbers, seen_parts):
    wide = table[1]
    lines = [tuple(line) + (part,) for line, part in zip(lines_at(table, numbers), seen_parts)]
    found = held(table[0], wide + 1, lines, tuple(unit(wide + 1, wide)))
    if found[0] == "sum":
        return found[1]
    return None


def told(table, seen):
    numbers = rows_seen(seen)
    seen_parts = [seen[number] for number in numbers]
    against = misfit(table, numbers, seen_parts)
    if against is not None:
        return ("none", against)
    found = opened_by(table, numbers)
    if found[0] == "shut":
        return ("any", found[1])
    return ("one", comes_to(table[0], found[1], seen_parts), found[1])
