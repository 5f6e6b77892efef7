"""Models: their columns, the groups of a column, and the one form."""

from countedchances.tokens import bytes_of

GAP = 5000


class Kind:
    """The values of a column: the whole numbers from low to high; of a flag 0 and 1, for no and yes."""

    def __init__(self, is_flag, low, high):
        self.is_flag = is_flag
        self.low = low
        self.high = high


class Column:
    """A column: its name as bytes, its kind, and the numbers of the columns that are its parents."""

    def __init__(self, name, kind, parents):
        self.name = name
        self.kind = kind
        self.parents = parents


class Model:
    """A model: its title as bytes, and its columns."""

    def __init__(self, title, columns):
        self.title = title
        self.columns = columns


def size_of(kind):
    """How many values the kind has."""
    return kind.high - kind.low + 1


def how_many_groups(columns, parents):
    """How many groups a column with these parents has."""
    groups = 1
    for parent in parents:
        groups = groups * size_of(columns[parent].kind)
    return groups


def group_in(columns, parents, row):
    """The number of the group that the row is in; the row has no gap in the parents."""
    group = 0
    for parent in parents:
        kind = columns[parent].kind
        group = group * size_of(kind) + (row[parent] - kind.low)
    return group


def how_many_fillings(columns, row):
    """How many fillings the row has."""
    fillings = 1
    for number, column in enumerate(columns):
        if row[number] == GAP:
            fillings = fillings * size_of(column.kind)
    return fillings


def is_row_of(columns, row):
    """Whether the numbers are a row: one for each column, each a value of its kind or a gap."""
    if len(row) != len(columns):
        return False
    for number, column in enumerate(columns):
        is_value = column.kind.low <= row[number] <= column.kind.high
        if not is_value and row[number] != GAP:
            return False
    return True


def one_form(model):
    """The bytes of the model's one form."""
    form = bytes_of("table ") + model.title + bytes_of("\n")
    for column in model.columns:
        form = form + column.name + bytes_of(" ") + kind_form(column.kind)
        form = form + parents_form(model.columns, column.parents) + bytes_of(" ;\n")
    return form


def kind_form(kind):
    """The bytes of a kind's one form."""
    if kind.is_flag:
        return bytes_of("flag")
    return bytes_of("num " + str(kind.low) + " " + str(kind.high))


def parents_form(columns, parents):
    """The bytes that tell a column's parents, with the blank ahead of them; none if there are no parents."""
    form = []
    for parent in parents:
        mark = ", " if form else " | "
        form = form + bytes_of(mark) + columns[parent].name
    return form
