"""Builds lines of calls for the tests, and takes their answers apart."""

import unittest

from pilesblends.plant import answers

WIDEST = 10 ** 18
HEAVIEST = 10 ** 9
MILLION = 10 ** 6
FRACTION_MOST = 10 ** 12


def pile(sort, most=HEAVIEST):
    return [0, sort, most]


def put(number, kilograms, grams1=0, grams2=0, grams3=0):
    return [1, number, kilograms, grams1, grams2, grams3]


def take(number, kilograms):
    return [2, number, kilograms]


def move(number, other, kilograms):
    return [3, number, other, kilograms]


def told(number):
    return [4, number]


def lots(number):
    return [5, number]


def sums():
    return [6]


def source(cost=0, kilograms=0, grams1=0, grams2=0, grams3=0):
    return [7, cost, kilograms, grams1, grams2, grams3]


def offer(number, cost=0):
    return [8, number, cost]


def clear():
    return [9]


def want(amount, kind1=(0, MILLION), kind2=(0, MILLION), kind3=(0, MILLION)):
    return [10, amount, 6, *kind1, *kind2, *kind3]


def blend():
    return [11]


def most():
    return [12]


def metal_range(kind):
    return [13, kind]


def row(numbers):
    return [len(numbers), *numbers]


def check(*amounts):
    """Each amount a whole number or a pair."""
    return [14] + row(pairs(amounts))


def proof(amounts, prices):
    return [15] + row(pairs(amounts)) + row(pairs(prices))


def never(prices):
    return [16] + row(pairs(prices))


def sources():
    return [17]


def pairs(fractions):
    """The numbers of a row of fractions: pairs, whole numbers, or what has a numerator and a denominator."""
    numbers = []
    for one in fractions:
        numbers.extend(one if isinstance(one, tuple) else (one.numerator, one.denominator))
    return numbers


def as_list(calls):
    numbers = []
    for call in calls:
        numbers.extend(call)
    return numbers


def taken_apart(numbers):
    rows = []
    place = 0
    while place < len(numbers):
        behind = place + 1 + numbers[place]
        rows.append(numbers[place + 1:behind])
        place = behind
    return rows


def ask(*calls):
    """The answer of each call, in order."""
    rows = taken_apart(answers(as_list(calls)))
    assert len(rows) == len(calls), rows
    return rows


def last(*calls):
    return ask(*calls)[-1]


def lots_told(answer):
    """An answer of lots as (kilograms, three grades) each."""
    rows = [tuple(answer[k:k + 7]) for k in range(2, len(answer), 7)]
    assert answer[0] == 0 and answer[1] == len(rows), answer
    return rows


def sources_told(answer):
    """An answer of sources without what is wanted: (cost, kilograms, three grades) each."""
    rows = [
        (answer[k], answer[k + 1], tuple(zip(answer[k + 2:k + 8:2], answer[k + 3:k + 8:2])))
        for k in range(9, len(answer), 8)
    ]
    assert answer[0] == 0 and answer[8] == len(rows) and len(answer) == 9 + 8 * len(rows), answer
    return rows


def look():
    """Calls that show all that the answers can show; the last two tell how many piles and sources there were."""
    calls = [sums(), sources()]
    for number in range(1, 7):
        calls.extend([told(number), lots(number)])
    return calls + [pile(0), source()]


class LineTest(unittest.TestCase):
    def refused(self, code, call, before):
        """The call is refused so behind these, and all is as it was."""
        calls = list(before)
        rows = ask(*calls, call, *look())
        self.assertEqual(rows[len(calls)], [code], call)
        self.assertEqual(rows[len(calls) + 1:], ask(*calls, *look())[len(calls):], call)

    def not_refused(self, call, before):
        self.assertEqual(last(*before, call)[0], 0, call)
