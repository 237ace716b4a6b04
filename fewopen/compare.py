"""Two tables held against each other, the idle hands of a table, and a table trimmed of them."""

from fewopen.opening import opens
from fewopen.sets import open_sets, sets_below


def alike(one, other, many):
    for hands in sorted(sets_below(many)):
        first = opens(one, hands)
        second = opens(other, hands)
        if first[0] == "open" and second[0] == "shut":
            return (list(hands), 0, first[1], second[1])
        if first[0] == "shut" and second[0] == "open":
            return (list(hands), 1, second[1], first[1])
    return None


def idle(table, many):
    least = open_sets(table, many)[0]
    return [hand for hand in range(many) if not any([hand in hands for hands in least])]


def trimmed(table, many):
    left_out = idle(table, many)
    return (table[0], table[1], tuple([row for row in table[2] if row[0] not in left_out]))
