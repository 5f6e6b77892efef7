"""Fractions as pairs: the number above the line and the one below it, in lowest terms; none is below 0."""


def lowest(above, below):
    """The fraction of two whole numbers, of which the first is not below 0 and the second is above 0."""
    divisor = greatest_divisor(above, below)
    return (above // divisor, below // divisor)


def times(one, other):
    """The product of two fractions."""
    # Only crosswise can something cancel, and there the numbers are shorter than in the product.
    down = greatest_divisor(one[0], other[1])
    up = greatest_divisor(one[1], other[0])
    return ((one[0] // down) * (other[0] // up), (one[1] // up) * (other[1] // down))


def plus(one, other):
    """The sum of two fractions."""
    shared = greatest_divisor(one[1], other[1])
    rest = one[1] // shared
    above = one[0] * (other[1] // shared) + other[0] * rest
    # Only of what both numbers below share can something cancel, and that is short where one of them is.
    divisor = greatest_divisor(above, shared)
    return (above // divisor, rest * (other[1] // divisor))


def common_below(fractions):
    """The least number that can stand below all of the fractions."""
    below = 1
    for fraction in fractions:
        below = below // greatest_divisor(below, fraction[1]) * fraction[1]
    return below


def wholes_over(fractions, below):
    """The numbers above the line, when the number that can stand below all of the fractions stands there."""
    return [fraction[0] * (below // fraction[1]) for fraction in fractions]


def common_divisor(numbers):
    """The greatest whole number that divides all of the numbers; 0 if all are 0."""
    divisor = 0
    for number in numbers:
        divisor = greatest_divisor(number, divisor)
    return divisor


def greatest_divisor(one, other):
    """The greatest whole number that divides both; 0 if both are 0."""
    while other != 0:
        rest = one % other
        one = other
        other = rest
    return one
