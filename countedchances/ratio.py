"""Fractions as pairs: the number above the line and the one below it, in lowest terms."""


def lowest(above, below):
    """The fraction of two whole numbers, of which the first is not below 0 and the second is above 0."""
    divisor = greatest_divisor(above, below)
    return (above // divisor, below // divisor)


def greatest_divisor(one, other):
    """The greatest whole number that divides both."""
    while other != 0:
        rest = one % other
        one = other
        other = rest
    return one
