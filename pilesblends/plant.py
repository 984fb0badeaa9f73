"""The calls of a line, one behind another, and their answers."""

from pilesblends.blend_calls import call_blend, call_most, call_range
from pilesblends.bounds import all_as_told, all_within, how_many_numbers, how_many_rows
from pilesblends.exact import in_a_row
from pilesblends.pile_calls import call_lots, call_move, call_pile, call_put, call_sums, call_take, call_told
from pilesblends.proof_calls import call_check, call_never, call_proof
from pilesblends.refusals import OUT_OF_RANGE
from pilesblends.source_calls import call_clear, call_offer, call_source, call_sources, call_want
from pilesblends.yard import Yard


def answer_to(yard, call, numbers, rows):
    if not all_within(call, numbers, len(yard.piles)):
        return [OUT_OF_RANGE]
    if not all_as_told(call, rows, len(yard.sources)):
        return [OUT_OF_RANGE]
    works = (
        call_pile, call_put, call_take, call_move, call_told, call_lots, call_sums,
        call_source, call_offer, call_clear, call_want, call_blend, call_most, call_range,
        call_check, call_proof, call_never, call_sources,
    )
    work = works[call]
    # How long each row is, is known by now: so the rows' numbers may simply follow the others.
    return work(yard, numbers + in_a_row(rows))


def rows_at(calls, place, count):
    """So many rows from this place on, each behind how many numbers it has."""
    rows = []
    for turn in range(count):
        behind = place + 1 + calls[place]
        rows.append(calls[place + 1:behind])
        place = behind
    return rows


def answers(calls):
    yard = Yard()
    answered = []
    place = 0
    while place < len(calls):
        call = calls[place]
        behind = place + 1 + how_many_numbers(call)
        rows = rows_at(calls, behind, how_many_rows(call))
        answer = answer_to(yard, call, calls[place + 1:behind], rows)
        answered.append(len(answer))
        answered.extend(answer)
        place = behind + sum([1 + len(row) for row in rows])
    return answered
