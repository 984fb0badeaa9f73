"""Which numbers and rows each call has, and from where to where each number goes."""

# None in the place of the last number: it is a pile's, and the last pile is the last.
BOUNDS = {
    0: ((0, 2), (1, 1000000000)),
    1: ((1, None), (1, 1000000), (0, 1000000000), (0, 1000000000), (0, 1000000000)),
    2: ((1, None), (1, 1000000000)),
    3: ((1, None), (1, None), (1, 1000000000)),
    4: ((1, None),),
    5: ((1, None),),
    6: (),
    7: ((0, 1000000), (0, 1000000), (0, 1000000), (0, 1000000), (0, 1000000)),
    8: ((1, None), (0, 1000000)),
    9: (),
    10: ((0, 1000000),),
    11: (),
    12: (),
    13: ((1, 3),),
    14: (),
    15: (),
    16: (),
    17: (),
}

# The rows of the calls that have some.
ROWS = {
    10: ("leasts and mosts",),
    14: ("amounts",),
    15: ("amounts", "prices"),
    16: ("prices",),
}

MOST_GRAMS = 1000000
MOST_OF_A_FRACTION = 1000000000000
# Of a wanted kilogram, of three leasts, of three mosts.
PRICES_AHEAD = 7


def how_many_numbers(call):
    return len(BOUNDS[call])


def how_many_rows(call):
    return len(ROWS.get(call, ()))


def within(number, bound, pile_count):
    last = pile_count if bound[1] is None else bound[1]
    return bound[0] <= number and number <= last


def all_within(call, numbers, pile_count):
    return all([within(number, bound, pile_count) for number, bound in zip(numbers, BOUNDS[call])])


def all_between(numbers, first, last):
    return all([first <= number and number <= last for number in numbers])


def are_fractions(row, count):
    if len(row) != 2 * count:
        return False
    above = all_between(row[0::2], -MOST_OF_A_FRACTION, MOST_OF_A_FRACTION)
    return above and all_between(row[1::2], 1, MOST_OF_A_FRACTION)


def is_as_told(row, name, source_count):
    if name == "amounts":
        return are_fractions(row, source_count)
    if name == "prices":
        return are_fractions(row, PRICES_AHEAD + source_count)
    return len(row) == 6 and all_between(row, 0, MOST_GRAMS)


def all_as_told(call, rows, source_count):
    return all([is_as_told(row, name, source_count) for row, name in zip(rows, ROWS.get(call, ()))])
