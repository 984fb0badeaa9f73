"""Blends: what they ask of the sources, told in whole numbers, and the best of them.

A source is gone through in parcels: a parcel is so many kilograms that its metal of each kind, times 1000, is a
whole number. Unknown is how many parcels a blend takes of each source.
"""

from pilesblends.cheapest import alone, cheapest
from pilesblends.exact import NOTHING, common_divisor, times
from pilesblends.yard import KILOGRAMS_OF_A_TONNE


class Parcel:
    def __init__(self, kilograms, metal):
        self.kilograms = kilograms
        self.metal = metal


def parcel_of(source):
    metal = [times(grade, KILOGRAMS_OF_A_TONNE) for grade in source.grades]
    kilograms = 1
    for grams in metal:
        kilograms = kilograms * (grams[1] // common_divisor(kilograms, grams[1]))
    return Parcel(kilograms, [grams[0] * (kilograms // grams[1]) for grams in metal])


def parcels_of(sources):
    return [parcel_of(source) for source in sources]


def just_together(parcels, amount):
    kilograms = [parcel.kilograms for parcel in parcels]
    return [[-amount] + kilograms, [amount] + [-number for number in kilograms]]


def leasts_and_mosts_met(parcels, leasts, mosts):
    conditions = []
    for kind, bounds in enumerate(zip(leasts, mosts)):
        above = [parcel.metal[kind] - bounds[0] * parcel.kilograms for parcel in parcels]
        under = [bounds[1] * parcel.kilograms - parcel.metal[kind] for parcel in parcels]
        conditions.extend([[0] + above, [0] + under])
    return conditions


def no_more_than_there_is(sources, parcels):
    conditions = []
    for place, source in enumerate(sources):
        conditions.append([source.kilograms] + alone(len(sources), place, -parcels[place].kilograms))
    return conditions


def best_blend(yard, parcels, costs):
    """How many kilograms it takes of each source, as fractions, or None; the costs are those of a parcel."""
    conditions = just_together(parcels, yard.amount)
    conditions.extend(no_more_than_there_is(yard.sources, parcels))
    conditions.extend(leasts_and_mosts_met(parcels, yard.leasts, yard.mosts))
    counts = cheapest(costs, conditions)
    if counts is None:
        return None
    return [times(count, parcel.kilograms) for count, parcel in zip(counts, parcels)]


def cheapest_blend(yard):
    parcels = parcels_of(yard.sources)
    costs = [source.cost * parcel.kilograms for source, parcel in zip(yard.sources, parcels)]
    return best_blend(yard, parcels, costs)


def poorest_blend(yard, kind):
    """A blend with the least metal of this kind (0, 1 or 2), or None."""
    parcels = parcels_of(yard.sources)
    return best_blend(yard, parcels, [parcel.metal[kind] for parcel in parcels])


def richest_blend(yard, kind):
    """A blend with the most metal of this kind (0, 1 or 2), or None."""
    parcels = parcels_of(yard.sources)
    # A blend's kilograms are fixed, so most metal is what lacks least to a grade that no source has.
    rich = max([parcel.metal[kind] // parcel.kilograms + 1 for parcel in parcels], default=0)
    return best_blend(yard, parcels, [rich * parcel.kilograms - parcel.metal[kind] for parcel in parcels])


def greatest_amount(yard):
    """How many kilograms can be blended at the most, as a fraction.

    One kilogram is blended, and one more unknown is which share of what's there, the same of each source, is enough
    for it. As often as the smallest such share goes into the whole, so many kilograms can be blended.
    """
    parcels = parcels_of(yard.sources)
    conditions = just_together(parcels, 1) + leasts_and_mosts_met(parcels, yard.leasts, yard.mosts)
    conditions = [condition + [0] for condition in conditions]
    for place, source in enumerate(yard.sources):
        needed = alone(len(parcels), place, -parcels[place].kilograms)
        conditions.append([0] + needed + [source.kilograms])
    found = cheapest([0] * len(parcels) + [1], conditions)
    if found is None:
        return NOTHING
    share = found[-1]
    return (share[1], share[0])
