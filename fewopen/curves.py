"""Curves: the number that one has at an x, and the one that goes through some points."""

from fewopen.mixes import added, scaled
from fewopen.numbers import over


def curve_at(p, curve, x):
    number = 0
    for own in reversed(curve):
        number = (number * x + own) % p
    return number


# The curve, one wider, that has at each x besides the old factor x - nought.
def with_nought_at(p, curve, nought):
    return added(p, [0] + curve, scaled(p, curve + [0], -nought))


def through(p, points):
    curve = []
    # It has 0 at each x gone through, so a multiple of it, put to the curve, changes nothing
    # there; and at an x that comes again, where `over` refuses it.
    noughts = [1]
    for x, number in points:
        share = over(p, number - curve_at(p, curve, x), curve_at(p, noughts, x))
        curve = added(p, curve + [0], scaled(p, noughts, share))
        noughts = with_nought_at(p, noughts, x)
    return tuple(curve)
