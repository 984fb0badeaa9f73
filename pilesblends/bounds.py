"""Which numbers each call has, and from where to where each of them goes."""

# None in the place of the last number: it is a pile's, and the last pile is the last.
BOUNDS = {
    0: ((0, 2), (1, 1000000000)),
    1: ((1, None), (1, 1000000), (0, 1000000000), (0, 1000000000), (0, 1000000000)),
    2: ((1, None), (1, 1000000000)),
    3: ((1, None), (1, None), (1, 1000000000)),
    4: ((1, None),),
    5: ((1, None),),
    6: (),
    7: ((0, 1000000), (0, 1000000), (0, 1000000), (0, 1000000), (0, 1000000)),
    8: ((1, None), (0, 1000000)),
}


def how_many_numbers(call):
    return len(BOUNDS[call])


def within(number, bound, pile_count):
    last = pile_count if bound[1] is None else bound[1]
    return bound[0] <= number and number <= last


def all_within(call, numbers, pile_count):
    return all([within(number, bound, pile_count) for number, bound in zip(numbers, BOUNDS[call])])
