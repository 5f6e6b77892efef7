"""The calls by their names, and their answers one by one."""

from countedchances.model import answers

WEATHER = "table Weather\nrain flag ;\ndrops num 0 2 | rain ;\nwet flag | rain, drops ;\n"
GAP = 5000
GREATEST = 10 ** 18


def listed(numbers):
    return [len(numbers)] + list(numbers)


def load(text):
    """The text stands as a str of ASCII signs or as a list of bytes."""
    return [0] + listed([ord(sign) for sign in text] if isinstance(text, str) else text)


def shown():
    return [1]


def row(*numbers):
    return [2] + listed(numbers)


def drop(k):
    return [3, k]


def counts(i):
    return [4, i]


def fit(n, d):
    return [5, n, d]


def chances(i):
    return [6, i]


def set_group(i, g, weights):
    return [7, i, g] + listed(weights)


def even():
    return [8]


def likely():
    return [9]


def expect():
    return [10]


def step():
    return [11]


def chance(*numbers):
    return [12] + listed(numbers)


def post(i, *numbers):
    return [13, i] + listed(numbers)


def fill(*numbers):
    return [14] + listed(numbers)


def split(given):
    """The answers, each a list of its own."""
    parts = []
    at = 0
    while at < len(given):
        end = at + 1 + given[at]
        if end > len(given):
            raise ValueError("an answer is shorter than it says")
        parts.append(given[at + 1:end])
        at = end
    return parts


def run(*calls):
    """The answers to the calls, each a list of its own."""
    return split(answers([number for call in calls for number in call]))


def last(*calls):
    """The answer to the last of the calls."""
    return run(*calls)[-1]


def form_of(answer):
    """The text that an answer of shown tells."""
    if answer[0] != len(answer) - 1:
        raise ValueError("the number of bytes is not the one told")
    return "".join(chr(byte) for byte in answer[1:])


def everything(columns):
    """The calls that tell all that is held of a model with so many columns."""
    told = [shown(), likely(), expect()]
    for i in range(columns):
        told.append(counts(i))
        told.append(chances(i))
    return told
