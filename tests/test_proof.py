"""proof and never: prices that prove that nothing is cheaper, or that there is no blend."""

from tests.line import (
    FRACTION_MOST, MILLION, LineTest, blend, check, last, never, offer, pile, proof, put, source, want,
)

RICH = source(5, 100, 2000, 0, 0)
POOR = source(3, 100, 1000, 0, 0)
TWO = [RICH, POOR, want(50, (1500, 3000))]
NIL = (0, 1)


def prices(wanted, leasts=(NIL, NIL, NIL), mosts=(NIL, NIL, NIL), kilograms=()):
    return [wanted, *leasts, *mosts, *kilograms]


GOOD = prices(4, ((1, 500), 0, 0), (0, 0, 0), (0, 0))


class ProofTest(LineTest):
    def proved(self, calls, amounts, told):
        self.assertEqual(last(*calls, proof(amounts, told)), [0, 1], (calls, amounts, told))

    def not_proved(self, calls, amounts, told):
        self.assertEqual(last(*calls, proof(amounts, told)), [0, 0], (calls, amounts, told))

    def test_by_the_price_of_each_least(self):
        for kind in (1, 2, 3):
            grams = [[most if one == kind else 0 for one in (1, 2, 3)] for most in (2000, 1000)]
            bounds = [(1500, 3000) if one == kind else (0, MILLION) for one in (1, 2, 3)]
            calls = [source(5, 100, *grams[0]), source(3, 100, *grams[1]), want(50, *bounds)]
            told = prices(4, [(1, 500) if one == kind else 0 for one in (1, 2, 3)], (0, 0, 0), (0, 0))
            self.proved(calls, (25, 25), told)
            told = prices(4, [(1, 500) if one != kind else 0 for one in (1, 2, 3)], (0, 0, 0), (0, 0))
            self.not_proved(calls, (25, 25), told)

    def test_by_the_price_of_each_most(self):
        for kind in (1, 2, 3):
            grams = [[most if one == kind else 0 for one in (1, 2, 3)] for most in (2000, 1000)]
            bounds = [(0, 1500) if one == kind else (0, MILLION) for one in (1, 2, 3)]
            calls = [source(3, 100, *grams[0]), source(5, 100, *grams[1]), want(50, *bounds)]
            told = prices(4, (0, 0, 0), [(1, 500) if one == kind else 0 for one in (1, 2, 3)], (0, 0))
            self.proved(calls, (25, 25), told)
            told = prices(4, (0, 0, 0), [(1, 500) if one != kind else 0 for one in (1, 2, 3)], (0, 0))
            self.not_proved(calls, (25, 25), told)

    def test_by_the_price_of_a_sources_kilogram(self):
        calls = [source(2, 10), source(7, 10), source(1, 3), want(15)]
        self.assertEqual(last(*calls, blend()), [0, 1, 37, 1, 10, 1, 2, 1, 3, 1])
        self.proved(calls, (10, 2, 3), prices(7, kilograms=(5, 0, 6)))
        self.not_proved(calls, (10, 2, 3), prices(7, kilograms=(5, 0, 5)))
        self.not_proved(calls, (10, 2, 3), prices(7, kilograms=(6, 0, 5)))

    def test_no_sources(self):
        for wanted in (0, 5, -5, FRACTION_MOST, -FRACTION_MOST):
            self.proved([], (), prices(wanted))
            self.not_proved([want(1)], (), prices(wanted))
        self.proved([], (), prices(0, (1, 2, 3), (4, 5, 6)))
        self.not_proved([], (), prices(0, (1, 2, 3), (4, 5, -6)))

    def test_one_source(self):
        self.proved([source(7, 10), want(4)], (4,), prices(7, kilograms=(0,)))
        self.proved([source(7, 10), want(10)], (10,), prices(9, kilograms=(2,)))
        self.not_proved([source(7, 10), want(4)], (4,), prices(9, kilograms=(2,)))

    def test_six_sources(self):
        six = [source(k, 10, 0, 0, 0) for k in range(1, 7)]
        self.proved(six + [want(35)], (10, 10, 10, 5, 0, 0), prices(4, kilograms=(3, 2, 1, 0, 0, 0)))
        self.not_proved(six + [want(35)], (10, 10, 10, 5, 0, 0), prices(4, kilograms=(3, 2, 0, 0, 0, 0)))
        self.not_proved(six + [want(35)], (10, 10, 10, 0, 5, 0), prices(4, kilograms=(3, 2, 1, 0, 0, 0)))

    def test_another_blend_that_costs_as_little(self):
        calls = [source(5, 10), source(5, 10), want(6)]
        for first in range(7):
            self.proved(calls, (first, 6 - first), prices(5, kilograms=(0, 0)))

    def test_the_amounts_alone(self):
        self.proved(TWO, (25, 25), GOOD)
        for fault, calls, amounts, told in (
            (1, TWO, (-2, 70), GOOD),
            (2, [RICH, source(3, 20, 1000, 0, 0), TWO[2]], (25, 25), GOOD),
            (3, TWO, (40, 0), GOOD),
            (4, TWO, (20, 30), prices((19, 5), ((1, 500), 0, 0), (0, 0, 0), (0, 0))),
            (5, [POOR, RICH, want(50, (0, 1000))], (50, 0), prices(3, (0, 0, 0), (0, 0, 0), (0, 0))),
        ):
            if fault == 5:
                self.proved(calls, amounts, told)
                calls = calls[:2] + [want(50, (0, 999))]
            self.assertEqual(last(*calls, check(*amounts))[1], fault)
            self.not_proved(calls, amounts, told)

    def test_a_price_that_is_not_fair_alone(self):
        # What the unfair price stands for is of no weight: no ore of kind 2 or 3, or a source of 0 kilograms.
        calls = [RICH, POOR, source(1000, 0), want(50, (1500, 3000), (0, 0), (0, 0))]
        good = prices(4, ((1, 500), 0, 0), (0, 0, 0), (0, 0, 0))
        self.proved(calls, (25, 25, 0), good)
        for place in (2, 3, 5, 6, 9):
            told = list(good)
            told[place] = (-1, FRACTION_MOST)
            self.not_proved(calls, (25, 25, 0), told)
            told[place] = (1, FRACTION_MOST)
            self.proved(calls, (25, 25, 0), told)
        least = [source(5, 100, 2000, 0, 0), want(50, (2000, 3000))]
        self.proved(least, (50,), prices(5, (1, 0, 0), (0, 0, 0), (0,)))
        self.not_proved(least, (50,), prices(5, (-1, 0, 0), (0, 0, 0), (0,)))
        greatest = [source(5, 100, 2000, 0, 0), want(50, (0, 2000))]
        self.proved(greatest, (50,), prices(5, (0, 0, 0), (1, 0, 0), (0,)))
        self.not_proved(greatest, (50,), prices(5, (0, 0, 0), (-1, 0, 0), (0,)))

    def test_a_source_worth_too_much_alone(self):
        for price in ((1, 499), (1, 501), (3, 500), (0, 1)):
            self.not_proved(TWO, (25, 25), prices(4, (price, 0, 0), (0, 0, 0), (0, 0)))
        six = [source(4, 10) for k in range(6)]
        for place in range(6):
            cheap = list(six)
            cheap[place] = source(3, 10)
            amounts = [0] * 6
            amounts[place - 1] = 5
            self.proved(six + [want(5)], amounts, prices(4, kilograms=[0] * 6))
            self.not_proved(cheap + [want(5)], amounts, prices(4, kilograms=[0] * 6))

    def test_a_source_worth_just_what_it_costs(self):
        calls = [source(4, 10), source(4, 10), want(5)]
        self.proved(calls, (5, 0), prices(4, kilograms=(0, 0)))
        tiny = (4 * 10 ** 11 + 1, 10 ** 11)
        self.not_proved(calls, (5, 0), prices(tiny, kilograms=(0, 0)))

    def test_all_worth_too_little(self):
        self.not_proved(TWO, (25, 25), prices((39, 10), ((1, 500), 0, 0), (0, 0, 0), (0, 0)))
        self.not_proved(TWO, (30, 20), GOOD)
        self.not_proved(TWO, (25, 25), prices(4, ((1, 500), 0, 0), (0, 0, 0), ((1, FRACTION_MOST), 0)))
        self.not_proved(TWO, (25, 25), prices(4, ((1, 500), 0, 0), (0, 0, 0), (0, (1, FRACTION_MOST))))

    def test_all_worth_too_much(self):
        self.not_proved(TWO, (25, 25), prices((41, 10), ((1, 500), 0, 0), (0, 0, 0), (0, 0)))
        # Amounts that cost less than any blend: all is worth more than they cost.
        self.not_proved(TWO, (20, 30), GOOD)

    def test_the_first_price_below_0(self):
        calls = [source(5, 10, 7, 7, 7), want(0)]
        for wanted in (-1, -FRACTION_MOST, (-1, FRACTION_MOST)):
            self.proved(calls, (0,), prices(wanted, kilograms=(0,)))
        self.not_proved([source(5, 10), want(1)], (1,), prices(-5, kilograms=(0,)))
        free = [source(0, 10, 2, 2, 2), want(1, (1, 9))]
        self.not_proved(free, (1,), prices(-1, kilograms=(0,)))

    def test_offered_ore(self):
        calls = [pile(2), put(1, 3, 1, 0, 0), put(1, 4, 2, 0, 0), offer(1, 6), source(1, 10), want(4, (300, 900))]
        # 3000/7 grams a tonne: 7/10 of the offered ore.
        self.proved(calls, ((14, 5), (6, 5)), prices((9, 2), ((7, 600), 0, 0), (0, 0, 0), (0, 0)))
        self.assertEqual(last(*calls, blend()), [0, 1, 18, 1, 14, 5, 6, 5])


class NeverTest(LineTest):
    def proved(self, calls, told):
        self.assertEqual(last(*calls, never(told)), [0, 1], (calls, told))
        self.assertEqual(last(*calls, blend()), [0, 0])

    def not_proved(self, calls, told):
        self.assertEqual(last(*calls, never(told)), [0, 0], (calls, told))

    def test_because_of_each_least(self):
        for kind in (1, 2, 3):
            bounds = [(2500, MILLION) if one == kind else (0, MILLION) for one in (1, 2, 3)]
            calls = [source(5, 100, 2000, 2000, 2000), source(3, 100, 1000, 1000, 1000), want(50, *bounds)]
            leasts = [1 if one == kind else 0 for one in (1, 2, 3)]
            self.proved(calls, prices(500, leasts, (0, 0, 0), (0, 0)))
            self.not_proved(calls, prices(501, leasts, (0, 0, 0), (0, 0)))
            self.proved(calls, prices(501, leasts, (0, 0, 0), (1, 0)))
            self.not_proved(calls, prices(501, leasts, (0, 0, 0), (0, 1)))
            self.not_proved(calls, prices(500, leasts[1:] + leasts[:1], (0, 0, 0), (0, 0)))

    def test_because_of_each_most(self):
        for kind in (1, 2, 3):
            bounds = [(0, 900) if one == kind else (0, MILLION) for one in (1, 2, 3)]
            calls = [source(5, 100, 2000, 2000, 2000), source(3, 100, 1000, 1000, 1000), want(50, *bounds)]
            mosts = [1 if one == kind else 0 for one in (1, 2, 3)]
            self.proved(calls, prices(100, (0, 0, 0), mosts, (0, 0)))
            self.not_proved(calls, prices(101, (0, 0, 0), mosts, (0, 0)))
            self.not_proved(calls, prices(100, mosts, (0, 0, 0), (0, 0)))

    def test_because_there_is_too_little(self):
        calls = [source(5, 100), source(3, 99), want(200)]
        self.proved(calls, prices(1, kilograms=(1, 1)))
        self.proved(calls, prices((1, 7), kilograms=((1, 7), (1, 7))))
        self.not_proved([source(5, 100), source(3, 100), want(200)], prices(1, kilograms=(1, 1)))
        self.not_proved(calls, prices(1, kilograms=(1, 0)))
        self.not_proved(calls, prices(1, kilograms=(2, 1)))

    def test_no_sources(self):
        self.proved([want(1)], prices((1, FRACTION_MOST)))
        self.proved([want(1)], prices(1, (1, 2, 3), (4, 5, 6)))
        self.not_proved([want(1)], prices(0))
        self.not_proved([want(0)], prices(1))
        self.not_proved([], prices(1))

    def test_one_source(self):
        self.proved([source(1, 9), want(10)], prices(1, kilograms=(1,)))
        self.not_proved([source(1, 10), want(10)], prices(1, kilograms=(1,)))

    def test_six_sources(self):
        six = [source(k, 10, k, k, k) for k in range(1, 7)]
        self.proved(six + [want(61)], prices(1, kilograms=[1] * 6))
        self.not_proved(six + [want(60)], prices(1, kilograms=[1] * 6))
        # Source 6 alone has 6 grams a tonne, and there are but 10 kilograms of it.
        self.proved(six + [want(20, (6, 9))], prices(1, (1, 0, 0), (0, 0, 0), (0, 0, 0, 0, 0, 1)))
        for place in range(6):
            kilograms = [1] * 6
            kilograms[place] = (FRACTION_MOST - 1, FRACTION_MOST)
            self.not_proved(six + [want(61)], prices(1, kilograms=kilograms))

    def test_a_price_that_is_not_fair_alone(self):
        calls = [source(5, 100, 0, 0, 0), source(9, 0), want(101, (0, 0), (0, 0), (0, 0))]
        good = prices(1, kilograms=(1, 2))
        self.proved(calls, good)
        for place in (1, 2, 3, 4, 5, 6):
            told = list(good)
            told[place] = (-1, FRACTION_MOST)
            self.not_proved(calls, told)
            told[place] = (1, FRACTION_MOST)
            self.proved(calls, told)
        calls = [source(5, 100), source(9, 0), want(101, (1, MILLION))]
        self.proved(calls, prices(1, (2, 0, 0), (0, 0, 0), (1, 0)))
        self.not_proved(calls, prices(1, (2, 0, 0), (0, 0, 0), (1, -1)))
        self.not_proved(calls, prices(1, (2, 0, 0), (0, 0, 0), (-1, 1)))

    def test_a_source_worth_more_than_0_alone(self):
        calls = [source(5, 100), source(3, 50), want(200)]
        self.proved(calls, prices(1, kilograms=(1, 1)))
        for kilograms in (((FRACTION_MOST - 1, FRACTION_MOST), 1), (1, (FRACTION_MOST - 1, FRACTION_MOST)), (0, 0)):
            self.not_proved(calls, prices(1, kilograms=kilograms))

    def test_all_worth_just_0_or_less(self):
        calls = [source(5, 100), source(3, 50), want(200)]
        self.not_proved(calls, prices(0, kilograms=(0, 0)))
        self.not_proved(calls, prices(1, kilograms=(1, 2)))
        self.not_proved(calls, prices(1, kilograms=(2, 2)))
        self.proved(calls, prices(1, kilograms=(1, (2 * 10 ** 11 - 1, 10 ** 11))))

    def test_the_first_price_below_0(self):
        calls = [source(5, 100), want(200)]
        self.not_proved(calls, prices(-1, kilograms=(0,)))
        self.not_proved(calls, prices(-1, kilograms=(1,)))
        self.not_proved([want(1)], prices(-1))

    def test_costs_do_not_matter(self):
        for cost in (0, 1, MILLION):
            self.proved([source(cost, 9), want(10)], prices(1, kilograms=(1,)))
            self.not_proved([source(cost, 9), want(10)], prices(2, kilograms=(1,)))

    def test_least_above_most(self):
        calls = [source(1, 10, 5, 5, 5), source(1, 10, 9, 9, 9), want(1, (7, 6))]
        self.proved(calls, prices(1, (1, 0, 0), (1, 0, 0), (0, 0)))
        self.not_proved(calls, prices(2, (1, 0, 0), (1, 0, 0), (0, 0)))
