"""A table turned about: a set opens it just where the others don't open the first."""

from fewopen.errors import NoFit, TooMany
from fewopen.lines import nought_sums, numbers_at
from fewopen.opening import lines_at, opened_by

MOST_ROWS = 12


# Multipliers of the new rows that come to nought with all nought sums of the old ones are the
# parts of a filling of the old table, and what they come to with the multipliers that open it is
# the hidden number of that filling. So a set opens the new table just where some filling has the
# hidden number 1 and only noughts at the others' rows: a turn by which the others are shut.
def turned_table(table):
    p = table[0]
    rows = table[2]
    if len(rows) > MOST_ROWS:
        raise TooMany("a table of more than twelve rows is not turned about")
    numbers = list(range(len(rows)))
    found = opened_by(table, numbers)
    if found[0] == "shut":
        raise NoFit("all hands together don't open the table")
    columns = [found[1]] + nought_sums(p, table[1], lines_at(table, numbers))
    turned = [(row[0], tuple(numbers_at(p, columns, number))) for number, row in enumerate(rows)]
    return (p, len(columns), tuple(turned))
