"""Fractions: a pair of whole numbers, above and below, in lowest terms, below from 1 on."""

NOTHING = (0, 1)


def common_divisor(one, other):
    while other != 0:
        rest = one % other
        one = other
        other = rest
    return abs(one)


def lowest(above, below):
    divisor = common_divisor(above, below)
    return (above // divisor, below // divisor)


def plus(one, other):
    # Two divisors of short numbers are found much sooner than one of the long product.
    shared = common_divisor(one[1], other[1])
    short = one[1] // shared
    above = one[0] * (other[1] // shared) + other[0] * short
    rest = common_divisor(above, shared)
    return (above // rest, short * (other[1] // rest))


def minus(one, other):
    return plus(one, (-other[0], other[1]))


def total(fractions):
    result = NOTHING
    for fraction in fractions:
        result = plus(result, fraction)
    return result


def times(fraction, number):
    divisor = common_divisor(fraction[1], number)
    return (fraction[0] * (number // divisor), fraction[1] // divisor)


def product(one, other):
    return lowest(one[0] * other[0], one[1] * other[1])


def over(fraction, number):
    """The fraction divided by a whole number from 1 on."""
    divisor = common_divisor(fraction[0], number)
    return (fraction[0] // divisor, fraction[1] * (number // divisor))


def less(one, other):
    return one[0] * other[1] < other[0] * one[1]


def in_a_row(parts):
    row = []
    for part in parts:
        row.extend(part)
    return row


def in_fractions(row):
    """The fractions that stand in a row, in lowest terms or not."""
    return [lowest(above, below) for above, below in zip(row[0::2], row[1::2])]
