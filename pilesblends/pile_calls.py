"""The calls on piles. Each is handed a yard and its numbers, which are in their ranges, and answers a row."""

from pilesblends.exact import in_a_row
from pilesblends.lots import cut, lot_with, metal_of, together, weight_of
from pilesblends.piles import Pile, put_on, would_be_too_heavy, would_be_too_many
from pilesblends.refusals import OUT_OF_RANGE, TOO_HEAVY, TOO_LITTLE, TOO_MANY
from pilesblends.yard import MOST_PILES, pile_at


def call_pile(yard, numbers):
    if len(yard.piles) == MOST_PILES:
        return [TOO_MANY]
    yard.piles.append(Pile(numbers[0], numbers[1]))
    return [0, len(yard.piles)]


def call_put(yard, numbers):
    pile = pile_at(yard, numbers[0])
    kilograms = numbers[1]
    if would_be_too_heavy(pile, kilograms):
        return [TOO_HEAVY]
    if would_be_too_many(pile, 1):
        return [TOO_MANY]
    metal = tuple([(grams, 1) for grams in numbers[2:5]])
    put_on(pile, lot_with(kilograms, metal))
    yard.put_weight = yard.put_weight + kilograms
    yard.put_metal = together(yard.put_metal, metal)
    return [0, weight_of(pile.lots)]


def call_take(yard, numbers):
    pile = pile_at(yard, numbers[0])
    kilograms = numbers[1]
    if weight_of(pile.lots) < kilograms:
        return [TOO_LITTLE]
    halves = cut(pile.lots, kilograms)
    taken = halves[0]
    metal = metal_of(taken)
    pile.lots = halves[1]
    yard.taken_weight = yard.taken_weight + kilograms
    yard.taken_metal = together(yard.taken_metal, metal)
    return [0, weight_of(pile.lots)] + in_a_row(metal) + [len(taken)] + [lot.kilograms for lot in taken]


def call_move(yard, numbers):
    if numbers[0] == numbers[1]:
        return [OUT_OF_RANGE]
    pile = pile_at(yard, numbers[0])
    other = pile_at(yard, numbers[1])
    kilograms = numbers[2]
    if weight_of(pile.lots) < kilograms:
        return [TOO_LITTLE]
    if would_be_too_heavy(other, kilograms):
        return [TOO_HEAVY]
    halves = cut(pile.lots, kilograms)
    moved = halves[0]
    if would_be_too_many(other, len(moved)):
        return [TOO_MANY]
    pile.lots = halves[1]
    for lot in moved:
        put_on(other, lot)
    return [0, weight_of(pile.lots), weight_of(other.lots)] + in_a_row(metal_of(moved))


def call_told(yard, numbers):
    pile = pile_at(yard, numbers[0])
    metal = in_a_row(metal_of(pile.lots))
    return [0, pile.sort_number, pile.most, weight_of(pile.lots)] + metal + [len(pile.lots)]


def call_lots(yard, numbers):
    pile = pile_at(yard, numbers[0])
    answer = [0, len(pile.lots)]
    for lot in pile.lots:
        answer.append(lot.kilograms)
        answer.extend(in_a_row(lot.grades))
    return answer


def call_sums(yard, numbers):
    lots = []
    for pile in yard.piles:
        lots.extend(pile.lots)
    put = [yard.put_weight] + in_a_row(yard.put_metal)
    there = [weight_of(lots)] + in_a_row(metal_of(lots))
    taken = [yard.taken_weight] + in_a_row(yard.taken_metal)
    return [0] + put + there + taken
