"""What several tests need: plain, slow reckoning that shares nothing with the program."""

import itertools
import random
import unittest

PRIMES = [2, 3, 5, 7, 11, 13, 17, 19, 23, 29, 31, 37, 41, 43, 47,
          53, 59, 61, 67, 71, 73, 79, 83, 89, 97]


def square_sum(p, one, other):
    return sum(a * b for a, b in zip(one, other)) % p


def sum_of_lines(p, width, multipliers, lines):
    return tuple(sum(m * line[k] for m, line in zip(multipliers, lines)) % p
                 for k in range(width))


def all_lines(p, width):
    return list(itertools.product(range(p), repeat=width))


def rank(p, lines):
    rows = [list(line) for line in lines]
    found = 0
    for k in range(len(rows[0]) if rows else 0):
        for i in range(found, len(rows)):
            if rows[i][k] % p:
                rows[found], rows[i] = rows[i], rows[found]
                inverse = pow(rows[found][k], -1, p)
                for j in range(found + 1, len(rows)):
                    share = rows[j][k] * inverse
                    rows[j] = [(a - share * b) % p for a, b in zip(rows[j], rows[found])]
                found += 1
                break
    return found


def some_lines(seed, p, width, many):
    """Lines of which some are alike, noughts, or sums of others."""
    chance = random.Random(seed)
    lines = []
    for _ in range(many):
        way = chance.randrange(6)
        if way == 0:
            lines.append((0,) * width)
        elif way == 1 and lines:
            lines.append(chance.choice(lines))
        elif way == 2 and lines:
            one, other = chance.choice(lines), chance.choice(lines)
            lines.append(tuple((a + 2 * b) % p for a, b in zip(one, other)))
        else:
            lines.append(tuple(chance.randrange(p) for _ in range(width)))
    return lines


def some_rule(chance, depth, most, hands=10):
    """A rule with at most `depth` somes in one another and at most `most` hands written."""
    if depth == 0 or chance.random() < 0.25:
        return ("hand", chance.randrange(hands))
    many = chance.randint(1, min(most, chance.choice((2, 3, 4, 10))))
    share = most // many
    rules = tuple(some_rule(chance, depth - 1, share, hands) for _ in range(many))
    return ("some", chance.randint(1, many), rules)


def all_sets(many):
    return [list(hands) for size in range(many + 1)
            for hands in itertools.combinations(range(many), size)]


def unit_line(width, place=0):
    return tuple(int(k == place) for k in range(width))


def lines_of(table, hands):
    return [line for hand, line in table[2] if hand in hands]


def opens_plainly(table, hands):
    lines = lines_of(table, hands)
    return rank(table[0], lines) == rank(table[0], lines + [unit_line(table[1])])


def parts_plainly(table, filling):
    return [square_sum(table[0], line, filling) for hand, line in table[2]]


def some_table(seed, p, wide, many, hands=10):
    """A table with rows of which some are alike, noughts, or sums of others."""
    chance = random.Random(seed)
    lines = some_lines(seed, p, wide, many)
    if lines and chance.random() < 0.5:
        # Else the wished line would seldom be a sum of few rows by a great p.
        low = lines[chance.randrange(many)]
        lines[-1] = ((low[0] + 1) % p,) + low[1:]
    return (p, wide, tuple((chance.randrange(hands), line) for line in lines))


def some_seen(chance, table, share=0.5):
    """Parts of a filling of which some are kept back, and now and then one is spoilt."""
    filling = tuple(chance.randrange(table[0]) for _ in range(table[1]))
    seen = [part if chance.random() < share else None for part in parts_plainly(table, filling)]
    if seen and chance.random() < 0.4:
        seen[chance.randrange(len(seen))] = chance.randrange(table[0])
    return seen


def some_filling(chance, table):
    return tuple(chance.randrange(table[0]) for _ in range(table[1]))


def some_numbers(chance, p, many):
    return [chance.randrange(p) for _ in range(many)]


def curve_plainly(p, curve, x):
    return sum(number * x ** k for k, number in enumerate(curve)) % p


class LinesCase(unittest.TestCase):
    """Checks of multipliers and turns by the words of the document."""

    def is_by_p(self, p, numbers):
        for number in numbers:
            self.assertIs(type(number), int)
            self.assertTrue(0 <= number < p, number)

    def are_multipliers(self, p, multipliers, lines, wished):
        self.assertIs(type(multipliers), list)
        self.assertEqual(len(multipliers), len(lines))
        self.is_by_p(p, multipliers)
        self.assertEqual(sum_of_lines(p, len(wished), multipliers, lines), wished)

    def is_turn(self, p, wide, turn, lines):
        self.assertIs(type(turn), tuple)
        self.assertEqual(len(turn), wide)
        self.is_by_p(p, turn)
        self.assertEqual(turn[0], 1)
        for line in lines:
            self.assertEqual(square_sum(p, line, turn), 0)
