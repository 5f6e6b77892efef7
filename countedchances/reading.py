"""Reading a model out of a text, or finding the text's fault.

The fault of a one form that is too long is not looked for, for no text can have it: six columns with
three parents, all names of 16 bytes and all bounds of five, have a one form of less than 600 bytes.
"""

from countedchances.columns import Column, Kind, Model, how_many_groups, size_of
from countedchances.fault import Fault, NOT_ALLOWED, OUT_OF_BOUNDS, TOO_MANY, TOO_MANY_CELLS, TWICE, UNKNOWN
from countedchances.tokens import END, NUMBER, WORD, bytes_of, tokens_of

MOST_COLUMNS = 6
MOST_PARENTS = 3
MOST_CELLS = 512
GREATEST_BOUND = 1000
WIDEST_RANGE = 63

RESERVED = (
    "chance", "budget", "def", "let", "observe", "tell", "table", "net", "flag", "num", "if", "flip", "pick",
    "uniform", "given", "weigh", "true", "false",
)


class Reader:
    """The tokens of a text, gone through from left to right."""

    def __init__(self, tokens):
        self.tokens = tokens
        self.at = 0

    def ahead(self):
        """The token that is not read yet."""
        return self.tokens[self.at]

    def take(self):
        """Reads the token ahead."""
        token = self.tokens[self.at]
        self.at = self.at + 1
        return token


class Draft:
    """A column as it was read: the tokens of its name and its parents, and its kind."""

    def __init__(self, name, kind, parents):
        self.name = name
        self.kind = kind
        self.parents = parents


def read_model(text):
    """The model that the text tells."""
    reader = Reader(tokens_of(text))
    take_written(reader, "table")
    title = take_name(reader, True)
    drafts = [read_column(reader, True)]
    while reader.ahead().form != END:
        drafts.append(read_column(reader, len(drafts) < MOST_COLUMNS))
    columns = []
    for draft in drafts:
        columns.append(settled(draft, columns))
    return Model(title.content, columns)


def stands(reader, written):
    """Whether the token ahead is the word or sign that is written."""
    return reader.ahead().content == bytes_of(written)


def take_written(reader, written):
    """Reads a token that must be the word or sign that is written."""
    if not stands(reader, written):
        raise Fault(NOT_ALLOWED, reader.ahead().place)
    return reader.take()


def take_number(reader):
    """Reads a token that must be a number."""
    if reader.ahead().form != NUMBER:
        raise Fault(NOT_ALLOWED, reader.ahead().place)
    return reader.take()


def take_name(reader, has_room):
    """Reads a token that must be a name, and one for which there is room."""
    token = reader.ahead()
    if token.form != WORD or token.content in [bytes_of(word) for word in RESERVED]:
        raise Fault(NOT_ALLOWED, token.place)
    if not has_room:
        raise Fault(TOO_MANY, token.place)
    return reader.take()


def read_column(reader, has_room):
    """Reads a column, up to its ; sign."""
    name = take_name(reader, has_room)
    kind = read_kind(reader)
    parents = []
    if stands(reader, "|"):
        parents = read_parents(reader)
    take_written(reader, ";")
    return Draft(name, kind, parents)


def read_kind(reader):
    """Reads a kind; its bounds are looked at when both are read."""
    if stands(reader, "flag"):
        reader.take()
        return Kind(True, 0, 1)
    take_written(reader, "num")
    low = take_number(reader)
    high = take_number(reader)
    if abs(low.content) > GREATEST_BOUND:
        raise Fault(OUT_OF_BOUNDS, low.place)
    if high.content > GREATEST_BOUND or not 0 <= high.content - low.content <= WIDEST_RANGE:
        raise Fault(OUT_OF_BOUNDS, high.place)
    return Kind(False, low.content, high.content)


def read_parents(reader):
    """Reads the | sign and the parents behind it."""
    take_written(reader, "|")
    parents = [take_name(reader, True)]
    while stands(reader, ","):
        reader.take()
        parents.append(take_name(reader, len(parents) < MOST_PARENTS))
    return parents


def settled(draft, earlier):
    """The column of the draft, behind the columns that are earlier."""
    names = [column.name for column in earlier]
    if draft.name.content in names:
        raise Fault(TWICE, draft.name.place)
    numbers = []
    for token in draft.parents:
        numbers.append(settled_parent(token, names, numbers))
    if size_of(draft.kind) * how_many_groups(earlier, numbers) > MOST_CELLS:
        raise Fault(TOO_MANY_CELLS, draft.name.place)
    return Column(draft.name.content, draft.kind, numbers)


def settled_parent(token, names, parents):
    """The number of the column that the token names and that is not among the parents yet."""
    if token.content not in names:
        raise Fault(UNKNOWN, token.place)
    parent = names.index(token.content)
    if parent in parents:
        raise Fault(TWICE, token.place)
    return parent
