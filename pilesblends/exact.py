"""Fractions: a pair of whole numbers, above and below, in lowest terms, below from 1 on."""


def common_divisor(one, other):
    while other != 0:
        rest = one % other
        one = other
        other = rest
    return abs(one)


def lowest(above, below):
    divisor = common_divisor(above, below)
    return (above // divisor, below // divisor)


def plus(one, other):
    # Two divisors of short numbers are found much sooner than one of the long product.
    shared = common_divisor(one[1], other[1])
    short = one[1] // shared
    above = one[0] * (other[1] // shared) + other[0] * short
    rest = common_divisor(above, shared)
    return (above // rest, short * (other[1] // rest))


def times(fraction, number):
    divisor = common_divisor(fraction[1], number)
    return (fraction[0] * (number // divisor), fraction[1] // divisor)


def over(fraction, number):
    """The fraction divided by a whole number from 1 on."""
    divisor = common_divisor(fraction[0], number)
    return (fraction[0] // divisor, fraction[1] * (number // divisor))


def in_a_row(fractions):
    row = []
    for fraction in fractions:
        row.extend(fraction)
    return row
