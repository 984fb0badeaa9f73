"""The one object that a line's calls are made on: its piles, its sources, what is wanted, and what came and went."""

from pilesblends.lots import NO_METAL

MOST_PILES = 6
MOST_SOURCES = 6
KILOGRAMS_OF_A_TONNE = 1000


class Source:
    def __init__(self, cost, kilograms, grades):
        self.cost = cost
        self.kilograms = kilograms
        self.grades = grades


class Yard:
    def __init__(self):
        self.piles = []
        self.sources = []
        self.amount = 0
        self.leasts = [0, 0, 0]
        self.mosts = [1000000, 1000000, 1000000]
        self.put_weight = 0
        self.put_metal = NO_METAL
        self.taken_weight = 0
        self.taken_metal = NO_METAL


def pile_at(yard, number):
    return yard.piles[number - 1]
