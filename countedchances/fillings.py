"""The fillings of a row, and their chances.

The rank of a value is how many values of its kind are less. The cells of a column's table are numbered from 0,
group by group.
"""

from countedchances.columns import GAP, how_many_fillings, size_of
from countedchances.ratio import common_below, lowest, wholes_over


class Fillings:
    """The fillings of a row, in order.

    For each column, ranks has the list of the fillings' ranks, and cells that of the cells they are in. A filling's
    chance is its weight divided by below; the weights are whole, so that they are compared and added up at once.
    """

    def __init__(self, ranks, cells, weights, below):
        self.ranks = ranks
        self.cells = cells
        self.weights = weights
        self.below = below


def fillings_of(columns, chances, row):
    """The fillings of the row, weighed by the chances."""
    ranks = ranks_of(columns, row)
    cells = [cells_of(columns, number, ranks) for number in range(len(columns))]
    weights = [1] * how_many_fillings(columns, row)
    below = 1
    for number, table in enumerate(chances):
        # Cells that the row can't reach are left out: they would only make the numbers long.
        reached = sorted(set(cells[number]))
        factors = [chance_in(table, cell) for cell in reached]
        scale = common_below(factors)
        whole = dict(zip(reached, wholes_over(factors, scale)))
        weights = [weight * whole[cell] for weight, cell in zip(weights, cells[number])]
        below = below * scale
    return Fillings(ranks, cells, weights, below)


def ranks_of(columns, row):
    """For each column the list of the ranks that the row's fillings have there."""
    many = how_many_fillings(columns, row)
    alike = many
    ranks = []
    for value, column in zip(row, columns):
        size = size_of(column.kind)
        if value == GAP:
            # By their order, fillings that are alike in this column and all before it stand together.
            alike = alike // size
            ranks.append([at // alike % size for at in range(many)])
        else:
            ranks.append([value - column.kind.low] * many)
    return ranks


def cells_of(columns, number, ranks):
    """The list of the cells that the fillings with these ranks are in, of the column with that number."""
    cells = [0] * len(ranks[number])
    for needed in columns[number].parents + [number]:
        size = size_of(columns[needed].kind)
        cells = [cell * size + rank for cell, rank in zip(cells, ranks[needed])]
    return cells


def chance_in(table, cell):
    """The chance in a cell of the table."""
    size = len(table[0])
    return table[cell // size][cell % size]


def row_chance(fillings):
    """The chance of the row that has these fillings."""
    return lowest(sum(fillings.weights), fillings.below)


def sums_by(places, weights, many):
    """For each of so many places the sum of the weights that belong there."""
    sums = [0] * many
    for place, weight in zip(places, weights):
        sums[place] += weight
    return sums
