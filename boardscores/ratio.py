"""Exact fractions, told by two whole numbers: one above the line, and one of at least 1 below it."""


def common_divisor(first, second):
    """The greatest common divisor of a number of at least 0 and one of at least 1."""
    while second > 0:
        rest = first % second
        first = second
        second = rest
    return first


def lowest(above, below):
    """The fraction above / below, as a pair in lowest terms."""
    divisor = common_divisor(abs(above), below)
    return (above // divisor, below // divisor)


def rounded(above, below):
    """The whole number nearest to above / below, halves up."""
    return (2 * above + below) // (2 * below)


def rounded_to_ten(above, below):
    """The multiple of ten nearest to above / below, halves away from 0."""
    without_sign = 10 * rounded(abs(above), 10 * below)
    return without_sign if above >= 0 else -without_sign
