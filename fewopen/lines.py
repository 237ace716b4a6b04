"""Lines held against a wished line, and the sums of lines that are nought."""

from fewopen.numbers import over


def times(p, number, row):
    return [number * entry % p for entry in row]


# The row without the multiple of a lead (it has 1 at the place) that stands in it.
def freed(p, row, lead, place):
    number = row[place]
    if number == 0:
        return row
    return [(entry - number * other) % p for entry, other in zip(row, lead)]


def first_place(row, many):
    for place in range(many):
        if row[place] != 0:
            return place
    return None


# Told are (leads, noughts): a dict from a place below many to the one row that
# has 1 there, where all the other leads have 0; and the rows with 0 at all these
# places. Places from many on are carried along, to tell what was done to a row.
def eased(p, rows, many):
    leads = {}
    noughts = []
    for row in rows:
        rest = row
        for place, lead in leads.items():
            rest = freed(p, rest, lead, place)
        found = first_place(rest, many)
        if found is None:
            noughts.append(rest)
        else:
            fresh = times(p, over(p, 1, rest[found]), rest)
            for place in list(leads):
                leads[place] = freed(p, leads[place], fresh, found)
            leads[found] = fresh
    return (leads, noughts)


def numbers_at(p, lines, place):
    return [line[place] % p for line in lines]


def unit(width, place):
    row = [0] * width
    row[place] = 1
    return row


def held(p, width, lines, wished):
    many = len(lines)
    rows = []
    for place in range(width):
        # The unit keeps of which places a row is made up: that is what a turn is told from.
        rows.append(numbers_at(p, lines, place) + [wished[place] % p] + unit(width, place))
    parted = eased(p, rows, many)
    for row in parted[1]:
        if row[many] != 0:
            return ("turn", tuple(times(p, over(p, 1, row[many]), row[many + 1:])))
    multipliers = [0] * many
    for place, lead in parted[0].items():
        multipliers[place] = lead[many]
    return ("sum", multipliers)


# The line without a lead may have any multiplier: 1 here, and the leads make up for it.
def nought_sum(p, leads, many, free):
    multipliers = unit(many, free)
    for place, lead in leads.items():
        multipliers[place] = -lead[free] % p
    return multipliers


def nought_sums(p, width, lines):
    many = len(lines)
    leads = eased(p, [numbers_at(p, lines, place) for place in range(width)], many)[0]
    return [nought_sum(p, leads, many, free) for free in range(many) if free not in leads]
