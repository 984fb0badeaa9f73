"""Lots of ore, and rows of lots.

Metal is three fractions of grams, of kinds 1, 2, 3. A lot is never changed once
it is made, so that lots and their parts may share their grades.
"""

from pilesblends.exact import over, plus, times

NO_METAL = ((0, 1), (0, 1), (0, 1))


class Lot:
    def __init__(self, kilograms, grades):
        self.kilograms = kilograms
        self.grades = grades


def lot_with(kilograms, metal):
    return Lot(kilograms, tuple([over(grams, kilograms) for grams in metal]))


def metal_in(lot):
    return tuple([times(grade, lot.kilograms) for grade in lot.grades])


def together(metal, more):
    return tuple([plus(one, other) for one, other in zip(metal, more)])


def weight_of(lots):
    return sum([lot.kilograms for lot in lots])


def metal_of(lots):
    metal = NO_METAL
    for lot in lots:
        metal = together(metal, metal_in(lot))
    return metal


def mixed(lots):
    """One lot of all these, of which there is at least one."""
    return lot_with(weight_of(lots), metal_of(lots))


def cut(lots, kilograms):
    """Two rows: what is taken from the front, and what is left; the row handed in stays as it was."""
    taken = []
    left = []
    missing = kilograms
    for lot in lots:
        share = min(missing, lot.kilograms)
        missing = missing - share
        if share > 0:
            taken.append(Lot(share, lot.grades))
        if share < lot.kilograms:
            left.append(Lot(lot.kilograms - share, lot.grades))
    return (taken, left)
