"""What is expected by the chances, and the step that lets it become chances.

A row's part in a cell is the weight of its fillings there, over the weight of all its fillings. A column's cells
each have a dict of parts: by what stands below the line, the sum of what stands above it.
"""

from countedchances.counting import become_chances, tally
from countedchances.fillings import fillings_of, sums_by
from countedchances.ratio import common_below, common_divisor, lowest, plus, wholes_over

GREATEST_NUMBER = 10000000000000000000000000000000000000000


class NoChance(Exception):
    """A row has the chance 0, so its fillings have no part in it."""


class TooGreat(Exception):
    """Behind a step some chance would have a number that is too great."""


def parts_of(columns, chances, rows):
    """For each column its cells, with the rows' parts in each."""
    parts = []
    for table in chances:
        parts.append([{} for cell in range(len(table) * len(table[0]))])
    for row, often in tally(rows).items():
        add_parts(parts, fillings_of(columns, chances, row), often)
    return parts


def add_parts(parts, fillings, often):
    """Puts the parts of a row that has these fillings and is there so often to those of the other rows."""
    if sum(fillings.weights) == 0:
        raise NoChance()
    divisor = common_divisor(fillings.weights)
    weights = [weight // divisor for weight in fillings.weights]
    below = sum(weights)
    for number, reached in enumerate(fillings.cells):
        cells = parts[number]
        for cell, above in enumerate(sums_by(reached, weights, len(cells))):
            if above != 0:
                cells[cell][below] = cells[cell].get(below, 0) + above * often


def sum_of(cell):
    """What is expected for the cell: the sum of the parts in it."""
    total = (0, 1)
    for below, above in cell.items():
        total = plus(total, lowest(above, below))
    return total


def chances_behind_step(parts, before):
    """For each column the table of the chances behind a step."""
    return [table_behind_step(cells, table) for cells, table in zip(parts, before)]


def table_behind_step(cells, before):
    """The table of the chances that what is expected for a column's cells becomes."""
    table = []
    for number, chances in enumerate(before):
        first = number * len(chances)
        table.append(group_behind_step(cells[first:first + len(chances)], chances))
    return table


def group_behind_step(cells, before):
    """The chances that what is expected for a group's cells becomes."""
    expected = [sum_of(cell) for cell in cells]
    chances = become_chances(wholes_over(expected, common_below(expected)), before)
    for chance in chances:
        if max(chance) > GREATEST_NUMBER:
            raise TooGreat()
    return chances
