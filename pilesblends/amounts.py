"""Amounts taken of each source, as fractions: what they cost, what is in them, and what is wrong with them."""

from pilesblends.exact import NOTHING, less, product, times, total
from pilesblends.yard import KILOGRAMS_OF_A_TONNE


def cost_of(sources, amounts):
    return total([times(amount, source.cost) for source, amount in zip(sources, amounts)])


def metal_in_all(sources, amounts, kind):
    return total([product(amount, source.grades[kind]) for source, amount in zip(sources, amounts)])


def first_true(answers):
    """Its number from 1 on, or 0 where none is."""
    for number, answer in enumerate(answers, start=1):
        if answer:
            return number
    return 0


def first_fault(yard, amounts):
    """The fault's number and by which source or kind it is; 0 and 0 where there is none."""
    together = total(amounts)
    metal = [times(metal_in_all(yard.sources, amounts, kind), KILOGRAMS_OF_A_TONNE) for kind in range(3)]
    faults = (
        [less(amount, NOTHING) for amount in amounts],
        [less((source.kilograms, 1), amount) for source, amount in zip(yard.sources, amounts)],
        [together != (yard.amount, 1)],
        [less(grams, times(together, least)) for grams, least in zip(metal, yard.leasts)],
        [less(times(together, most), grams) for grams, most in zip(metal, yard.mosts)],
    )
    for number, answers in enumerate(faults, start=1):
        which = first_true(answers)
        if which > 0:
            return [number, which]
    return [0, 0]
