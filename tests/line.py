"""Builds lines of calls for the tests, and takes their answers apart."""

import unittest

from pilesblends.plant import answer_to, answers
from pilesblends.yard import Yard

WIDEST = 10 ** 18
HEAVIEST = 10 ** 9


def pile(sort, most=HEAVIEST):
    return [0, sort, most]


def put(number, kilograms, grams1=0, grams2=0, grams3=0):
    return [1, number, kilograms, grams1, grams2, grams3]


def take(number, kilograms):
    return [2, number, kilograms]


def move(number, other, kilograms):
    return [3, number, other, kilograms]


def told(number):
    return [4, number]


def lots(number):
    return [5, number]


def sums():
    return [6]


def source(cost=0, kilograms=0, grams1=0, grams2=0, grams3=0):
    return [7, cost, kilograms, grams1, grams2, grams3]


def offer(number, cost=0):
    return [8, number, cost]


def as_list(calls):
    numbers = []
    for call in calls:
        numbers.extend(call)
    return numbers


def taken_apart(numbers):
    rows = []
    place = 0
    while place < len(numbers):
        behind = place + 1 + numbers[place]
        rows.append(numbers[place + 1:behind])
        place = behind
    return rows


def ask(*calls):
    """The answer of each call, in order."""
    rows = taken_apart(answers(as_list(calls)))
    assert len(rows) == len(calls), rows
    return rows


def last(*calls):
    return ask(*calls)[-1]


def yard_after(*calls):
    yard = Yard()
    for call in calls:
        answer_to(yard, call[0], call[1:])
    return yard


def lots_told(answer):
    """An answer of lots as (kilograms, three grades) each."""
    rows = [tuple(answer[k:k + 7]) for k in range(2, len(answer), 7)]
    assert answer[0] == 0 and answer[1] == len(rows), answer
    return rows


def all_of(yard):
    return (
        [(p.sort_number, p.most, [(t.kilograms, t.grades) for t in p.lots]) for p in yard.piles],
        [(s.cost, s.kilograms, s.grades) for s in yard.sources],
        (yard.put_weight, yard.put_metal, yard.taken_weight, yard.taken_metal),
    )


def look():
    """Calls that show all that the answers can show; the last two tell how many piles and sources there were."""
    calls = [sums()]
    for number in range(1, 7):
        calls.extend([told(number), lots(number)])
    return calls + [pile(0), source()]


class LineTest(unittest.TestCase):
    def refused(self, code, call, before):
        """The call is refused so behind these, and all is as it was."""
        calls = list(before)
        rows = ask(*calls, call, *look())
        self.assertEqual(rows[len(calls)], [code], call)
        self.assertEqual(rows[len(calls) + 1:], ask(*calls, *look())[len(calls):], call)
        self.assertEqual(all_of(yard_after(*calls, call)), all_of(yard_after(*calls)), call)

    def not_refused(self, call, before):
        self.assertEqual(last(*before, call)[0], 0, call)
