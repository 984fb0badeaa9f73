"""Lines of 120 calls, with 15 of blend, most and range among them on six sources."""

import random
from fractions import Fraction

from pilesblends.plant import answers
from tests import second_way
from tests.line import (
    LineTest, ask, as_list, blend, check, clear, metal_range, most, move, never, offer, pairs, pile, proof, put, source,
    sources, sources_told, taken_apart, want,
)

LOOKS = [blend(), most(), metal_range(1), metal_range(2), metal_range(3)] * 3


def mixed_line():
    """Six mixed piles, each moved on again and again, all offered."""
    dice = random.Random(120)
    calls = [pile(2) for n in range(6)]
    calls += [put(n, 999000 + n, *[dice.randrange(10 ** 6) for k in range(3)]) for n in range(1, 7)]
    for n in range(86):
        calls.append(move(n % 6 + 1, (n + 1) % 6 + 1, dice.randrange(400000, 800000)))
    return calls + [offer(n, dice.randrange(1000)) for n in range(1, 7)]


def near(told, spread):
    """Leasts and mosts round the middle of the sources' grades."""
    bounds = []
    for kind in range(3):
        grades = [1000 * Fraction(*one[2][kind]) for one in told]
        middle = int(sum(grades)) // len(grades)
        bounds.append((max(0, middle - spread), middle + spread))
    return bounds


class LongLinesTest(LineTest):
    def test_fifteen_looks_behind_many_moves(self):
        before = mixed_line()
        told = sources_told(ask(*before, sources())[-1])
        self.assertGreater(max(grade[1] for one in told for grade in one[2]), 10 ** 150)
        wanted = want(900000, *near(told, 60))
        calls = before + [wanted] + LOOKS
        self.assertEqual(len(calls), 120)
        looks = ask(*calls)[-15:]
        self.assertEqual(looks, looks[:5] * 3)
        self.blend_holds(told, wanted, looks)

    def blend_holds(self, told, wanted_call, looks):
        """The blend is one by the words, and what most and range tell fits it."""
        here = [(cost, kilograms, [Fraction(*grade) for grade in grades]) for cost, kilograms, grades in told]
        wanted = (wanted_call[1], wanted_call[3::2], wanted_call[4::2])
        self.assertEqual(looks[0][:2], [0, 1])
        amounts = [Fraction(*looks[0][n:n + 2]) for n in range(4, len(looks[0]), 2)]
        self.assertEqual(second_way.fault(here, wanted, amounts), (0, 0))
        self.assertEqual(looks[0][2:4], pairs([second_way.cost(here, amounts)]))
        self.assertGreaterEqual(Fraction(*looks[1][1:]), wanted[0])
        for kind in (1, 2, 3):
            low, high = Fraction(*looks[1 + kind][2:4]), Fraction(*looks[1 + kind][4:6])
            self.assertLessEqual(low, second_way.metal(here, amounts, kind - 1))
            self.assertGreaterEqual(high, second_way.metal(here, amounts, kind - 1))
            self.assertGreaterEqual(low * 1000, wanted[0] * wanted[1][kind - 1])
            self.assertLessEqual(high * 1000, wanted[0] * wanted[2][kind - 1])

    def test_looks_between_changes(self):
        dice = random.Random(17)
        for k in range(10):
            calls = [source(*[dice.randrange(1, 40) for n in range(5)]) for m in range(6)]
            looks = dice.sample(LOOKS, 15)
            while len(calls) < 118:
                if looks and dice.random() < 0.15:
                    calls.append(looks.pop())
                else:
                    bounds = [(dice.randrange(15), dice.randrange(15, 40)) for n in range(3)]
                    calls.append(dice.choice([
                        want(dice.randrange(60), *bounds), sources(), check(*[dice.randrange(9) for n in range(6)]),
                        proof([dice.randrange(9) for n in range(6)], [dice.randrange(5) for n in range(13)]),
                        never([dice.randrange(5) for n in range(13)]), source(), metal_range(4), check(1),
                    ]))
            calls += [clear(), sources()]
            self.assertEqual(len(calls), 120)
            rows = ask(*calls)
            wanted = want(0)
            for call, row in zip(calls, rows):
                if call[0] == 10:
                    wanted = call
                elif call[0] in (11, 12, 13, 14, 15, 16):
                    self.assertEqual(row, ask(*calls[:6], wanted, call)[-1], call)

    def test_the_longest_rows(self):
        six = [source(1, 10, 1, 1, 1)] * 6
        calls = six + [[15, 40] + [1] * 40 + [40] + [1] * 40] * 114
        self.assertEqual(ask(*calls)[6:], [[-1]] * 114)
        calls = six + [proof([1] * 6, [1] * 13)] * 113 + [sources()]
        rows = ask(*calls)
        self.assertEqual(rows[6:-1], [[0, 0]] * 113)
        self.assertEqual(len(sources_told(rows[-1])), 6)

    def test_asked_twice_and_not_changed(self):
        calls = as_list(mixed_line() + [want(500000)] + LOOKS)
        copy = list(calls)
        first = answers(calls)
        self.assertEqual(answers(calls), first)
        self.assertEqual(calls, copy)
        self.assertEqual(len(taken_apart(first)), 120)
