"""The calls of a line, one behind another, and their answers."""

from pilesblends.bounds import all_within, how_many_numbers
from pilesblends.pile_calls import call_lots, call_move, call_pile, call_put, call_sums, call_take, call_told
from pilesblends.refusals import OUT_OF_RANGE
from pilesblends.source_calls import call_offer, call_source
from pilesblends.yard import Yard


def answer_to(yard, call, numbers):
    if not all_within(call, numbers, len(yard.piles)):
        return [OUT_OF_RANGE]
    works = (
        call_pile, call_put, call_take, call_move, call_told, call_lots, call_sums,
        call_source, call_offer,
    )
    work = works[call]
    return work(yard, numbers)


def answers(calls):
    yard = Yard()
    answered = []
    place = 0
    while place < len(calls):
        call = calls[place]
        behind = place + 1 + how_many_numbers(call)
        answer = answer_to(yard, call, calls[place + 1:behind])
        answered.append(len(answer))
        answered.extend(answer)
        place = behind
    return answered
