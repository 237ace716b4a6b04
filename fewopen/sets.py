"""The least sets that open a table, the greatest that don't, and the sets that bar."""

from fewopen.opening import opens


def is_opened(table, hands):
    return opens(table, hands)[0] == "open"


def sets_below(many):
    found = [()]
    for hand in range(many):
        found = found + [hands + (hand,) for hands in found]
    return found


def without(hands, hand):
    return tuple([other for other in hands if other != hand])


def with_one_more(hands, hand):
    return tuple(sorted(hands + (hand,)))


# opening, here and below, tells of each set, as a tuple, whether it opens.
def is_least(opening, hands):
    return opening[hands] and not any([opening[without(hands, hand)] for hand in hands])


def is_greatest(opening, many, hands):
    if opening[hands]:
        return False
    return all([opening[with_one_more(hands, hand)] for hand in range(many) if hand not in hands])


def open_sets(table, many):
    opening = {}
    for hands in sets_below(many):
        opening[hands] = is_opened(table, hands)
    least = [list(hands) for hands in opening if is_least(opening, hands)]
    greatest = [list(hands) for hands in opening if is_greatest(opening, many, hands)]
    return (sorted(least), sorted(greatest))


def bars(table, many, hands):
    return not is_opened(table, [hand for hand in range(many) if hand not in hands])
