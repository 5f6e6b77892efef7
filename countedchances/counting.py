"""Counts, and the chances that come of them.

A table is the list of a column's groups, each a list with something for each of the column's values:
a count, or a chance as a fraction.
"""

from countedchances.columns import GAP, group_in, how_many_groups, size_of
from countedchances.ratio import lowest


def first_chances(columns):
    """For each column the table of the chances that are at first."""
    return [even_table(columns, column) for column in columns]


def even_table(columns, column):
    """The column's table in which all values have the same chance."""
    size = size_of(column.kind)
    return [[(1, size)] * size for group in range(how_many_groups(columns, column.parents))]


def counts_of(columns, number, rows):
    """The table of the counts of the column with that number."""
    column = columns[number]
    size = size_of(column.kind)
    table = [[0] * size for group in range(how_many_groups(columns, column.parents))]
    for row in rows:
        if GAP not in [row[needed] for needed in [number] + column.parents]:
            group = group_in(columns, column.parents, row)
            table[group][row[number] - column.kind.low] += 1
    return table


def tally(rows):
    """How often each row, as a tuple, is among the rows."""
    often = {}
    for row in rows:
        often[tuple(row)] = often.get(tuple(row), 0) + 1
    return often


def fitted_chances(columns, rows, before, ahead_above, ahead_below):
    """For each column the table of the chances fitted with a fraction ahead."""
    fitted = []
    for number, table in enumerate(before):
        counts = counts_of(columns, number, rows)
        fitted.append(fitted_table(counts, table, ahead_above, ahead_below))
    return fitted


def fitted_table(counts, before, ahead_above, ahead_below):
    """The table of the chances that come of the counts with a fraction ahead."""
    fitted = []
    for group, chances in zip(counts, before):
        # All weights are taken ahead_below times, which keeps them whole and their chances the same.
        weights = [count * ahead_below + ahead_above for count in group]
        fitted.append(become_chances(weights, chances))
    return fitted


def become_chances(weights, before):
    """The chances that whole weights become; those before, if the weights' sum is 0."""
    total = sum(weights)
    if total == 0:
        return list(before)
    return [lowest(weight, total) for weight in weights]
