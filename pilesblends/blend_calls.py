"""The calls that look for blends. Each is handed a yard and its numbers, which are in their ranges."""

from pilesblends.amounts import cost_of, metal_in_all
from pilesblends.blends import cheapest_blend, greatest_amount, poorest_blend, richest_blend
from pilesblends.exact import in_a_row


def call_blend(yard, numbers):
    amounts = cheapest_blend(yard)
    if amounts is None:
        return [0, 0]
    return [0, 1] + in_a_row([cost_of(yard.sources, amounts)] + amounts)


def call_most(yard, numbers):
    return [0] + in_a_row([greatest_amount(yard)])


def call_range(yard, numbers):
    kind = numbers[0] - 1
    poorest = poorest_blend(yard, kind)
    if poorest is None:
        return [0, 0]
    ends = [metal_in_all(yard.sources, amounts, kind) for amounts in (poorest, richest_blend(yard, kind))]
    return [0, 1] + in_a_row(ends)
