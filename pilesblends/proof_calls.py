"""The calls that look at others' amounts and prices. Each is handed a yard and its numbers, with its rows as told."""

from pilesblends.amounts import cost_of, first_fault
from pilesblends.exact import NOTHING, in_a_row, in_fractions, less
from pilesblends.prices import Prices, are_fair, none_is_worth_more, worth_of_all


def call_check(yard, numbers):
    amounts = in_fractions(numbers)
    return [0] + first_fault(yard, amounts) + in_a_row([cost_of(yard.sources, amounts)])


def proves_cheapest(yard, amounts, prices):
    if first_fault(yard, amounts) != [0, 0] or not are_fair(prices):
        return False
    if not none_is_worth_more(yard, prices, [source.cost for source in yard.sources]):
        return False
    return worth_of_all(yard, prices) == cost_of(yard.sources, amounts)


def proves_that_there_is_none(yard, prices):
    if not are_fair(prices) or not none_is_worth_more(yard, prices, [0] * len(yard.sources)):
        return False
    return less(NOTHING, worth_of_all(yard, prices))


def call_proof(yard, numbers):
    fractions = in_fractions(numbers)
    amounts = fractions[:len(yard.sources)]
    prices = Prices(fractions[len(yard.sources):])
    return [0, 1 if proves_cheapest(yard, amounts, prices) else 0]


def call_never(yard, numbers):
    return [0, 1 if proves_that_there_is_none(yard, Prices(in_fractions(numbers))) else 0]
