"""The calls on an object that holds a model, data rows and chances."""

from countedchances.columns import how_many_fillings, how_many_groups, is_row_of, one_form, size_of
from countedchances.counting import become_chances, counts_of, first_chances, fitted_chances, tally
from countedchances.expected import NoChance, TooGreat, chances_behind_step, parts_of, sum_of
from countedchances.fault import Fault
from countedchances.fillings import fillings_of, row_chance, sums_by
from countedchances.ratio import lowest, times
from countedchances.reading import read_model

NO_MODEL = -1
NO_SUCH = -2
WRONG_FORM = -3
TOO_MANY_ROWS = -4
CHANCE_ZERO = -6
TOO_MANY_FILLINGS = -8
TOO_GREAT_NUMBER = -9

MOST_ROWS = 100
MOST_FILLINGS = 1024

LOAD = 0


class Held:
    """What the calls work on: a model or None, and with it its data rows and each column's table of chances."""

    def __init__(self):
        self.model = None
        self.rows = []
        self.chances = []


class Call:
    """A call as it stands in the list: its number, its whole numbers, its list, and where it ends."""

    def __init__(self, number, numbers, listed, end):
        self.number = number
        self.numbers = numbers
        self.listed = listed
        self.end = end


def row_refusal(held, row):
    """The refusal of a row, or 0 if it is taken."""
    if not is_row_of(held.model.columns, row):
        return WRONG_FORM
    if how_many_fillings(held.model.columns, row) > MOST_FILLINGS:
        return TOO_MANY_FILLINGS
    return 0


def is_there(number, many):
    """Whether the number is one of so many numbers from 0 on; Python itself would count back below 0."""
    return 0 <= number < many


def answer_load(held, call):
    try:
        model = read_model(call.listed)
    except Fault as fault:
        return [0, fault.code, fault.place]
    held.model = model
    held.rows = []
    held.chances = first_chances(model.columns)
    return [1]


def answer_shown(held, call):
    form = one_form(held.model)
    return [len(form)] + form


def answer_row(held, call):
    refusal = row_refusal(held, call.listed)
    if refusal != 0:
        return [refusal]
    if len(held.rows) == MOST_ROWS:
        return [TOO_MANY_ROWS]
    held.rows.append(call.listed)
    return [len(held.rows) - 1]


def answer_drop(held, call):
    dropped = call.numbers[0]
    if not is_there(dropped, len(held.rows)):
        return [NO_SUCH]
    held.rows.pop(dropped)
    return [len(held.rows)]


def answer_counts(held, call):
    columns = held.model.columns
    number = call.numbers[0]
    if not is_there(number, len(columns)):
        return [NO_SUCH]
    answer = table_head(columns, number)
    for group in counts_of(columns, number, held.rows):
        answer.extend(group)
    return answer


def answer_fit(held, call):
    above = call.numbers[0]
    below = call.numbers[1]
    if above < 0 or below < 1:
        return [WRONG_FORM]
    held.chances = fitted_chances(held.model.columns, held.rows, held.chances, above, below)
    return [1]


def answer_chances(held, call):
    columns = held.model.columns
    number = call.numbers[0]
    if not is_there(number, len(columns)):
        return [NO_SUCH]
    answer = table_head(columns, number)
    for group in held.chances[number]:
        for fraction in group:
            answer.extend(fraction)
    return answer


def answer_set(held, call):
    number = call.numbers[0]
    group = call.numbers[1]
    if not is_there(number, len(held.chances)) or not is_there(group, len(held.chances[number])):
        return [NO_SUCH]
    before = held.chances[number][group]
    weights = call.listed
    if len(weights) != len(before) or min(weights) < 0 or max(weights) == 0:
        return [WRONG_FORM]
    held.chances[number][group] = become_chances(weights, before)
    return [1]


def answer_even(held, call):
    held.chances = first_chances(held.model.columns)
    return [1]


def answer_likely(held, call):
    likely = (1, 1)
    for row, often in tally(held.rows).items():
        chance = row_chance(weighed(held, row))
        for turn in range(often):
            likely = times(likely, chance)
    return [1, likely[0], likely[1]]


def answer_expect(held, call):
    columns = held.model.columns
    try:
        parts = parts_of(columns, held.chances, held.rows)
    except NoChance:
        return [CHANCE_ZERO]
    answer = [len(columns)]
    for number, cells in enumerate(parts):
        answer.extend(table_head(columns, number))
        for cell in cells:
            answer.extend(sum_of(cell))
    return answer


def answer_step(held, call):
    try:
        parts = parts_of(held.model.columns, held.chances, held.rows)
        held.chances = chances_behind_step(parts, held.chances)
    except NoChance:
        return [CHANCE_ZERO]
    except TooGreat:
        return [TOO_GREAT_NUMBER]
    return [1]


def answer_chance(held, call):
    refusal = row_refusal(held, call.listed)
    if refusal != 0:
        return [refusal]
    chance = row_chance(weighed(held, call.listed))
    return [1, chance[0], chance[1]]


def answer_post(held, call):
    columns = held.model.columns
    number = call.numbers[0]
    if not is_there(number, len(columns)):
        return [NO_SUCH]
    refusal = row_refusal(held, call.listed)
    if refusal != 0:
        return [refusal]
    fillings = weighed(held, call.listed)
    total = sum(fillings.weights)
    if total == 0:
        return [CHANCE_ZERO]
    size = size_of(columns[number].kind)
    answer = [size]
    for weight in sums_by(fillings.ranks[number], fillings.weights, size):
        answer.extend(lowest(weight, total))
    return answer


def answer_fill(held, call):
    refusal = row_refusal(held, call.listed)
    if refusal != 0:
        return [refusal]
    fillings = weighed(held, call.listed)
    greatest = max(fillings.weights)
    chance = lowest(greatest, fillings.below)
    first = fillings.weights.index(greatest)
    answer = [fillings.weights.count(greatest), chance[0], chance[1]]
    for ranks, column in zip(fillings.ranks, held.model.columns):
        answer.append(column.kind.low + ranks[first])
    return answer


def weighed(held, row):
    """The fillings of the row, weighed by the chances that are held."""
    return fillings_of(held.model.columns, held.chances, row)


def table_head(columns, number):
    """What is told ahead of a column's table: how many groups and how many values it has."""
    column = columns[number]
    return [how_many_groups(columns, column.parents), size_of(column.kind)]


# By the number of a call: who answers it, how many whole numbers it has, and whether a list stands behind them.
CALLS = {
    0: (answer_load, 0, True),
    1: (answer_shown, 0, False),
    2: (answer_row, 0, True),
    3: (answer_drop, 1, False),
    4: (answer_counts, 1, False),
    5: (answer_fit, 2, False),
    6: (answer_chances, 1, False),
    7: (answer_set, 2, True),
    8: (answer_even, 0, False),
    9: (answer_likely, 0, False),
    10: (answer_expect, 0, False),
    11: (answer_step, 0, False),
    12: (answer_chance, 0, True),
    13: (answer_post, 1, True),
    14: (answer_fill, 0, True),
}


def call_at(calls, at):
    """The call that begins at the place in the list."""
    number = calls[at]
    known = CALLS[number]
    end = at + 1 + known[1]
    numbers = calls[at + 1:end]
    if not known[2]:
        return Call(number, numbers, [], end)
    first = end + 1
    end = first + calls[end]
    return Call(number, numbers, calls[first:end], end)


def answer_to(held, call):
    """The answer to a call, which changes what is held as the call says."""
    if held.model is None and call.number != LOAD:
        return [NO_MODEL]
    answer = CALLS[call.number][0]
    return answer(held, call)


def answers(calls):
    """The answers to the calls, one behind another, each with how many numbers it has before it."""
    held = Held()
    told = []
    at = 0
    while at < len(calls):
        call = call_at(calls, at)
        answer = answer_to(held, call)
        told.append(len(answer))
        told.extend(answer)
        at = call.end
    return told
