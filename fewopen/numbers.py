"""Whole numbers, numbers by a prime p, and what two lines of them come to."""

from fewopen.errors import NoNumber

GREATEST_P = 97


# Python counts a truth as an int, the document doesn't count it as a number.
def is_whole(thing):
    return isinstance(thing, int) and not isinstance(thing, bool)


def is_prime(thing):
    # The bounds come first, lest a number of sixty figures be walked up to.
    if not is_whole(thing) or thing < 2 or thing > GREATEST_P:
        return False
    return all([thing % small != 0 for small in range(2, thing)])


def over(p, one, other):
    rest = other % p
    if rest == 0:
        raise NoNumber("no number is over 0")
    told = one % p
    # (p // rest) * rest is -(p % rest) by p, so the told number over rest is
    # -(p // rest) times it over p % rest: a smaller rest, never 0 by a prime.
    while rest != 1:
        told = -told * (p // rest) % p
        rest = p % rest
    return told


def comes_to(p, one, other):
    return sum([left * right for left, right in zip(one, other)]) % p
