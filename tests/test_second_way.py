"""Random lists of sources, held against a second way of finding blends, and amounts and prices against the words."""

import random
from fractions import Fraction

from tests import second_way
from tests.line import (
    LineTest, ask, blend, check, metal_range, most, move, never, offer, pairs, pile, proof, put, source, sources,
    sources_told, want,
)


def as_fractions(told):
    return [(cost, kilograms, [Fraction(*grade) for grade in grades]) for cost, kilograms, grades in told]


def some_sources(dice, count):
    """Few different numbers, so that there are many equals."""
    costs = dice.choice([(0, 1), (1, 2, 3), (0, 5, 5, 9), range(50)])
    kilograms = dice.choice([(3, 4), (0, 5, 9), range(20)])
    grades = dice.choice([(0, 1, 2), (2, 4), range(9), range(30)])
    return [
        source(dice.choice(costs), dice.choice(kilograms), *[dice.choice(grades) for kind in range(3)])
        for k in range(count)
    ]


def some_wanted(dice, calls):
    """Leasts and mosts near to what the sources have."""
    amount = dice.randrange(0, 2 + sum(call[2] for call in calls) * 2 // 3)
    bounds = []
    for place in (3, 4, 5):
        grades = [call[place] for call in calls] or [1]
        low, high = sorted([dice.randint(min(grades), max(grades)) for k in range(2)])
        bounds.append(dice.choice([(low, high), (low, low), (0, high), (low, 10 ** 6), (0, 10 ** 6), (0, 10 ** 6)]))
    return want(amount, *bounds)


def wanted_of(call):
    return (call[1], call[3::2], call[4::2])


class SecondWayTest(LineTest):
    def alike(self, calls, wanted_call, with_most=True):
        """Whether there was a blend."""
        wanted = wanted_of(wanted_call)
        looks = [sources(), blend(), metal_range(1), metal_range(2), metal_range(3)] + [most()] * with_most
        rows = ask(*calls, wanted_call, *looks)[len(calls) + 1:]
        here = as_fractions(sources_told(rows[0]))
        found = second_way.corners(here, wanted)
        best = second_way.cheapest(found, here)
        if best is None:
            self.assertEqual(rows[1:5], [[0, 0]] * 4, (calls, wanted_call))
        else:
            self.assertEqual(rows[1], [0, 1] + pairs([best[0]] + best[1]), (calls, wanted_call))
            for kind in (1, 2, 3):
                ends = pairs(second_way.ends_of(found, here, kind))
                self.assertEqual(rows[1 + kind], [0, 1] + ends, (calls, wanted_call))
        if with_most:
            amount = second_way.greatest(here, wanted[1], wanted[2])
            self.assertEqual(rows[5], [0] + pairs([amount]), (calls, wanted_call))
        return best is not None

    def test_up_to_four_sources(self):
        dice = random.Random(20261116)
        outcomes = []
        for k in range(240):
            calls = some_sources(dice, k % 5)
            outcomes.append(self.alike(calls, some_wanted(dice, calls)))
        self.assertGreater(outcomes.count(True), 60)
        self.assertGreater(outcomes.count(False), 30)

    def test_five_and_six_sources(self):
        dice = random.Random(6)
        outcomes = []
        for k in range(14):
            calls = some_sources(dice, 5 + k % 2)
            outcomes.append(self.alike(calls, some_wanted(dice, calls), k % 4 < 2))
        self.assertGreater(outcomes.count(True), 4)

    def test_offers_of_mixed_piles(self):
        dice = random.Random(8)
        outcomes = []
        for k in range(40):
            calls = [pile(2) for n in range(3)]
            calls += [put(n, dice.randrange(1, 40), *[dice.randrange(100) for m in range(3)]) for n in (1, 2, 3)]
            for n in range(10):
                here, other = dice.sample((1, 2, 3), 2)
                calls.append(move(here, other, dice.randrange(1, 12)))
                calls.append(put(here, dice.randrange(1, 9), *[dice.randrange(30) for m in range(3)]))
            calls += [offer(n, dice.randrange(5)) for n in (1, 2, 3)]
            grades = [one[2] for one in as_fractions(sources_told(ask(*calls, sources())[-1]))]
            bounds = []
            for kind in range(3):
                middle = int(1000 * (dice.choice(grades)[kind] + dice.choice(grades)[kind]) / 2)
                bounds.append((max(0, middle - dice.choice([5, 100, 400])), middle + dice.choice([5, 100, 400])))
            outcomes.append(self.alike(calls, want(dice.randrange(1, 40), *bounds)))
        self.assertGreater(outcomes.count(True), 10)
        self.assertGreater(outcomes.count(False), 5)

    def test_leasts_alone_equal_mosts(self):
        dice = random.Random(9)
        for k in range(40):
            calls = some_sources(dice, 4)
            shares = [dice.randrange(call[2] + 1) for call in calls]
            amount = sum(shares) or 1
            exact = [sum(share * call[place] for share, call in zip(shares, calls)) for place in (3, 4, 5)]
            bounds = [(grams // amount, -(-grams // amount)) for grams in exact]
            there = self.alike(calls, want(sum(shares), *bounds))
            self.assertTrue(there)


class ProvedTest(LineTest):
    def test_each_blend_has_prices_that_prove_it_and_where_none_is_prices_prove_that(self):
        dice = random.Random(15)
        outcomes = []
        for k in range(300):
            calls = some_sources(dice, k % 4)
            wanted_call = some_wanted(dice, calls)
            wanted = wanted_of(wanted_call)
            rows = ask(*calls, wanted_call, sources(), blend())
            here = as_fractions(sources_told(rows[-2]))
            there = rows[-1][1] == 1
            outcomes.append(there)
            if there:
                amounts = [Fraction(*rows[-1][n:n + 2]) for n in range(4, len(rows[-1]), 2)]
                prices = second_way.prices_that_prove(here, wanted, amounts)
                asked = ask(*calls, wanted_call, proof(amounts, prices), check(*amounts), never(prices))[-3:]
                self.assertEqual(asked, [[0, 1], [0, 0, 0] + rows[-1][2:4], [0, 0]], (calls, wanted_call))
            else:
                prices = second_way.prices_that_prove_none(here, wanted)
                asked = ask(*calls, wanted_call, never(prices))
                self.assertEqual(asked[-1], [0, 1], (calls, wanted_call))
        self.assertGreater(outcomes.count(True), 80)
        self.assertGreater(outcomes.count(False), 60)


class ByTheWordsTest(LineTest):
    """Random amounts and prices near to those that pass."""

    def test_check(self):
        dice = random.Random(14)
        faults = {}
        for k in range(600):
            calls = some_sources(dice, dice.randrange(1, 7))
            amounts = [Fraction(dice.randrange(0, 2 * call[2] + 1), 2) for call in calls]
            if dice.random() < 0.2:
                amounts[dice.randrange(len(amounts))] += dice.choice([-9, 9, Fraction(1, 7)])
            wanted_call = some_wanted(dice, calls)
            if sum(amounts).denominator == 1 and sum(amounts) >= 0 and dice.random() < 0.9:
                wanted_call[1] = int(sum(amounts))
            rows = ask(*calls, wanted_call, sources(), check(*amounts))
            here = as_fractions(sources_told(rows[-2]))
            told = second_way.fault(here, wanted_of(wanted_call), amounts)
            self.assertEqual(rows[-1], [0, *told] + pairs([second_way.cost(here, amounts)]), (calls, wanted_call))
            faults[told[0]] = faults.get(told[0], 0) + 1
        self.assertEqual(sorted(faults), [0, 1, 2, 3, 4, 5])
        self.assertGreater(min(faults.values()), 10)

    def test_proof_and_never(self):
        dice = random.Random(16)
        proved = []
        for k in range(700):
            calls = some_sources(dice, dice.randrange(0, 4))
            wanted_call = some_wanted(dice, calls)
            wanted_call[1] = dice.choice([0, 1, 2, wanted_call[1]])
            wanted = wanted_of(wanted_call)
            rows = ask(*calls, wanted_call, sources(), blend())
            here = as_fractions(sources_told(rows[-2]))
            amounts = [Fraction(*rows[-1][n:n + 2]) for n in range(4, len(rows[-1]), 2)]
            if len(amounts) < len(calls) or dice.random() < 0.2:
                amounts = [Fraction(dice.randrange(3), 2) for call in calls]
            prices = [Fraction(dice.choice([0, 0, 0, 1, 1, 2, -1]), dice.choice([1, 1, 3])) for n in range(7)]
            prices += [Fraction(dice.choice([0, 0, 1]), 2) for call in calls]
            asked = ask(*calls, wanted_call, proof(amounts, prices), never(prices))[-2:]
            told = [second_way.proves(here, wanted, amounts, prices), second_way.proves_none(here, wanted, prices)]
            self.assertEqual(asked, [[0, int(one)] for one in told], (calls, wanted_call, amounts, prices))
            proved.append(tuple(told))
        self.assertEqual(len(set(proved)), 3)
