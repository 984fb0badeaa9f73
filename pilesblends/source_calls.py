"""The calls on sources and on what is wanted.

Each is handed a yard and its numbers, which are in their ranges, and answers a row.
"""

from pilesblends.exact import in_a_row, lowest
from pilesblends.lots import mixed
from pilesblends.refusals import TOO_LITTLE, TOO_MANY
from pilesblends.yard import KILOGRAMS_OF_A_TONNE, MOST_SOURCES, Source, pile_at


def add_source(yard, source):
    if len(yard.sources) == MOST_SOURCES:
        return [TOO_MANY]
    yard.sources.append(source)
    return [0, len(yard.sources)]


def call_source(yard, numbers):
    grades = tuple([lowest(grams, KILOGRAMS_OF_A_TONNE) for grams in numbers[2:5]])
    return add_source(yard, Source(numbers[0], numbers[1], grades))


def call_offer(yard, numbers):
    pile = pile_at(yard, numbers[0])
    if len(pile.lots) == 0:
        return [TOO_LITTLE]
    lot = mixed(pile.lots)
    return add_source(yard, Source(numbers[1], lot.kilograms, lot.grades))


def call_clear(yard, numbers):
    yard.sources = []
    return [0]


def call_want(yard, numbers):
    yard.amount = numbers[0]
    yard.leasts = numbers[1::2]
    yard.mosts = numbers[2::2]
    return [0]


def call_sources(yard, numbers):
    answer = [0, yard.amount] + in_a_row(list(zip(yard.leasts, yard.mosts))) + [len(yard.sources)]
    for source in yard.sources:
        answer.extend([source.cost, source.kilograms] + in_a_row(source.grades))
    return answer
