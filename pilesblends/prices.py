"""Prices, and what sources and all are worth by them."""

from pilesblends.exact import NOTHING, less, minus, plus, product, times, total
from pilesblends.yard import KILOGRAMS_OF_A_TONNE


class Prices:
    def __init__(self, fractions):
        self.wanted = fractions[0]
        self.leasts = fractions[1:4]
        self.mosts = fractions[4:7]
        self.sources = fractions[7:]


def are_fair(prices):
    return not any([less(price, NOTHING) for price in prices.leasts + prices.mosts + prices.sources])


def worth_of_metal(yard, prices, source):
    worth = NOTHING
    for kind, grade in enumerate(source.grades):
        grams = times(grade, KILOGRAMS_OF_A_TONNE)
        above = minus(grams, (yard.leasts[kind], 1))
        under = minus((yard.mosts[kind], 1), grams)
        both = plus(product(prices.leasts[kind], above), product(prices.mosts[kind], under))
        worth = plus(worth, both)
    return worth


def worth_of_source(yard, prices, place):
    """What a kilogram of the source at this place is worth."""
    worth = plus(prices.wanted, worth_of_metal(yard, prices, yard.sources[place]))
    return minus(worth, prices.sources[place])


def worth_of_all(yard, prices):
    there = [times(price, source.kilograms) for price, source in zip(prices.sources, yard.sources)]
    return minus(times(prices.wanted, yard.amount), total(there))


def none_is_worth_more(yard, prices, costs):
    """No source is worth more, a kilogram, than what stands at its place in the costs."""
    return not any([less((cost, 1), worth_of_source(yard, prices, place)) for place, cost in enumerate(costs)])
