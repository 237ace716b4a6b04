"""How many fillings fit what was seen, for each hidden number."""

from fewopen.lines import nought_sums
from fewopen.opening import lines_at, rows_seen, told


def to_the_power(number, many):
    power = 1
    for step in range(many):
        power = power * number
    return power


# How many numbers of a filling stay free: each row seen that the others don't
# make up for binds one.
def free_numbers(table, seen):
    lines = lines_at(table, rows_seen(seen))
    return table[1] - len(lines) + len(nought_sums(table[0], table[1], lines))


def how_often(table, seen):
    p = table[0]
    found = told(table, seen)
    if found[0] == "none":
        return [0] * p
    free = free_numbers(table, seen)
    if found[0] == "any":
        return [to_the_power(p, free - 1)] * p
    counts = [0] * p
    counts[found[1]] = to_the_power(p, free)
    return counts
