"""Texts as lists of bytes, and the tokens in them."""

from countedchances.fault import Fault, NO_TOKEN, TOO_LONG

MOST_BYTES = 4096
MOST_WORD_BYTES = 16
GREATEST_NUMBER = 1000000000

WORD = "word"
NUMBER = "number"
SIGN = "sign"
END = "end"

BLANKS = (32, 9, 10)
LINE_END = 10
REMARK = 35
ZERO = 48
MINUS = 45
GREATER = 62
SIGNS = "={}()[],;:/|"


class Token:
    """A token: its form, what it tells, its place, and the place behind it.

    A word and a sign tell their bytes, a number tells itself.
    """

    def __init__(self, form, content, place, end):
        self.form = form
        self.content = content
        self.place = place
        self.end = end


def bytes_of(written):
    """The bytes of a text that stands in the program."""
    return [ord(sign) for sign in written]


def tokens_of(text):
    """All tokens of the text, in order, and behind them one that stands for its end."""
    if len(text) > MOST_BYTES:
        raise Fault(TOO_LONG, MOST_BYTES)
    found = []
    at = behind_blanks(text, 0)
    while at < len(text):
        token = token_at(text, at)
        found.append(token)
        at = behind_blanks(text, token.end)
    found.append(Token(END, [], len(text), len(text)))
    return found


def behind_blanks(text, at):
    """The first place from at on where no blank stands."""
    while at < len(text) and (text[at] in BLANKS or text[at] == REMARK):
        if text[at] == REMARK:
            at = behind_remark(text, at)
        else:
            at = at + 1
    return at


def behind_remark(text, at):
    """The place of the next line end, or of the text's end."""
    while at < len(text) and text[at] != LINE_END:
        at = at + 1
    return at


def token_at(text, at):
    """The token that begins at the place."""
    byte = text[at]
    if is_letter(byte):
        return word_at(text, at)
    if is_digit(byte):
        return number_at(text, at, at)
    if byte == MINUS and at + 1 < len(text) and is_digit(text[at + 1]):
        return number_at(text, at, at + 1)
    if text[at:at + 2] == [MINUS, GREATER]:
        return Token(SIGN, [MINUS, GREATER], at, at + 2)
    if byte in bytes_of(SIGNS):
        return Token(SIGN, [byte], at, at + 1)
    raise Fault(NO_TOKEN, at)


def is_letter(byte):
    return 65 <= byte <= 90 or 97 <= byte <= 122


def is_digit(byte):
    return 48 <= byte <= 57


def word_at(text, at):
    """The word that begins at the place, where a letter stands."""
    end = at
    while end < len(text) and (is_letter(text[end]) or is_digit(text[end])):
        end = end + 1
    if end - at > MOST_WORD_BYTES:
        raise Fault(NO_TOKEN, at)
    return Token(WORD, text[at:end], at, end)


def number_at(text, at, first):
    """The number that begins at the place, with its first digit at first."""
    end = first
    while end < len(text) and is_digit(text[end]):
        end = end + 1
    is_negative = first > at
    digits = text[first:end]
    # A 0 ahead is right in one text alone: the single digit without a sign.
    if digits[0] == ZERO and (is_negative or len(digits) > 1):
        raise Fault(NO_TOKEN, at)
    told = told_by(digits)
    if told > GREATEST_NUMBER:
        raise Fault(NO_TOKEN, at)
    return Token(NUMBER, -told if is_negative else told, at, end)


def told_by(digits):
    """The whole number that the digits tell."""
    told = 0
    for digit in digits:
        told = told * 10 + (digit - ZERO)
    return told
