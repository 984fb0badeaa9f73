"""Piles: lots in an order that the pile's sort tells."""

from pilesblends.lots import mixed, weight_of

LAST_IN_FRONT = 0
FIRST_IN_FRONT = 1
MOST_LOTS = 30


class Pile:
    def __init__(self, sort_number, most):
        self.sort_number = sort_number
        self.most = most
        self.lots = []


def put_on(pile, lot):
    if pile.sort_number == LAST_IN_FRONT:
        pile.lots = [lot] + pile.lots
    elif pile.sort_number == FIRST_IN_FRONT:
        pile.lots = pile.lots + [lot]
    else:
        pile.lots = [mixed(pile.lots + [lot])]


def would_be_too_heavy(pile, kilograms):
    return weight_of(pile.lots) + kilograms > pile.most


def would_be_too_many(pile, coming):
    in_order = pile.sort_number == LAST_IN_FRONT or pile.sort_number == FIRST_IN_FRONT
    return in_order and len(pile.lots) + coming > MOST_LOTS
