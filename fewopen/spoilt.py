"""Points of which some may be spoilt: the curves that may be meant by them."""

from fewopen.curves import curve_at, through
from fewopen.errors import TooFew


def missed(p, curve, points):
    return sorted([x for x, number in points if curve_at(p, curve, x) != number % p])


def choices(points, many):
    if many == 0:
        return [[]]
    found = []
    for place, point in enumerate(points):
        found.extend([[point] + others for others in choices(points[place + 1:], many - 1)])
    return found


# Two of them at most: a third one would change no answer.
def some_meant(p, width, points, most):
    found = []
    # Of any width + most points a meant curve misses no more than most, so it goes
    # through width of them, and it is the only one that does.
    for chosen in choices(points[:width + most], width):
        curve = through(p, chosen)
        if curve not in found and len(missed(p, curve, points)) <= most:
            found.append(curve)
        if len(found) == 2:
            return found
    return found


def meant(p, width, points, most):
    more_points = len(points) - width
    if more_points < 0 or most > more_points:
        raise TooFew("so many points may be spoilt only where there are as many more than the width")
    found = some_meant(p, width, points, most)
    if len(found) == 0:
        return ("none",)
    if len(found) == 1:
        return ("one", found[0], missed(p, found[0], points))
    return ("more", found[0], found[1])
