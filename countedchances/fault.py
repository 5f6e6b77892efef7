"""The fault of a text that is no model."""

TOO_LONG = 1
NO_TOKEN = 2
NOT_ALLOWED = 3
TOO_MANY = 4
TWICE = 5
UNKNOWN = 6
OUT_OF_BOUNDS = 7
TOO_MANY_CELLS = 12


class Fault(Exception):
    """What is wrong with a text, as a code, and where, as a place."""

    def __init__(self, code, place):
        self.code = code
        self.place = place
