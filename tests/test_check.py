"""check: what's wrong first with amounts that others tell, and what they cost."""

from fractions import Fraction

from tests.line import FRACTION_MOST, MILLION, LineTest, check, last, offer, pairs, pile, put, source, want

THREE = [source(5, 100, 2000, 10, 0), source(3, 100, 1000, 20, 0), source(0, 100, 0, 0, 40)]
WANTED = want(50, (1000, 1500), (5, 15), (0, 20))
SIX = [source(k, 10, 0, 0, 0) for k in range(1, 7)]


class CheckTest(LineTest):
    def checked(self, calls, amounts, fault, which, cost):
        self.assertEqual(last(*calls, check(*amounts)), [0, fault, which] + pairs([cost]), (calls, amounts))

    def test_nothing_wrong(self):
        self.checked(THREE + [WANTED], (20, 20, 10), 0, 0, 160)
        self.checked(THREE + [WANTED], ((49, 2), (49, 2), 1), 0, 0, 196)
        self.checked(THREE + [WANTED], (25, 25, 0), 0, 0, 200)

    def test_no_sources(self):
        self.checked([], (), 0, 0, 0)
        self.checked([want(0, (9, 8), (7, 6), (5, 4))], (), 0, 0, 0)
        self.checked([want(1)], (), 3, 1, 0)

    def test_one_source(self):
        one = [source(7, 10, 5, 5, 5), want(4, (5, 5), (5, 5), (5, 5))]
        self.checked(one, (4,), 0, 0, 28)
        self.checked(one, (-1,), 1, 1, -7)
        self.checked(one, (11,), 2, 1, 77)
        self.checked(one, ((7, 2),), 3, 1, Fraction(49, 2))

    def test_six_sources(self):
        self.checked(SIX + [want(21)], (6, 5, 4, 3, 2, 1), 0, 0, 56)
        self.checked(SIX + [want(60)], (10,) * 6, 0, 0, 210)
        for number in range(1, 7):
            low = [1] * 6
            low[number - 1] = Fraction(-1, 9)
            self.checked(SIX + [want(6)], low, 1, number, 21 - number - Fraction(number, 9))
            high = [1] * 6
            high[number - 1] = Fraction(91, 9)
            self.checked(SIX + [want(6)], high, 2, number, 21 - number + Fraction(91 * number, 9))

    def test_below_0_by_the_first_source(self):
        self.checked(THREE + [WANTED], (-1, 41, 10), 1, 1, 118)
        self.checked(THREE + [WANTED], (10, -1, 41), 1, 2, 47)
        self.checked(THREE + [WANTED], (10, 41, -1), 1, 3, 173)
        self.checked(THREE + [WANTED], (10, -1, -1), 1, 2, 47)
        self.checked(THREE + [WANTED], (-1, -1, -1), 1, 1, -8)
        self.checked(THREE + [WANTED], ((-1, FRACTION_MOST), 41, 9), 1, 1, 123 - Fraction(5, FRACTION_MOST))

    def test_more_than_there_is_by_the_first_source(self):
        few = [source(5, 10), source(3, 10), source(1, 0), want(20)]
        self.checked(few, (10, 10, 0), 0, 0, 80)
        self.checked(few, (11, 9, 0), 2, 1, 82)
        self.checked(few, (9, 11, 0), 2, 2, 78)
        self.checked(few, (10, 9, 1), 2, 3, 78)
        self.checked(few, (9, 11, 1), 2, 2, 79)
        self.checked(few, ((10 ** 11 + 1, 10 ** 10), 9, 1), 2, 1, 78 + Fraction(5, 10 ** 10))

    def test_not_the_wanted_amount(self):
        for amounts in ((25, 24, 0), (25, 25, (1, 1000)), (0, 0, 0), (50, 50, 50)):
            cost = sum(Fraction(*pairs([one])) * c for one, c in zip(amounts, (5, 3, 0)))
            self.checked(THREE + [WANTED], amounts, 3, 1, cost)
        self.checked(THREE, (0, 0, 0), 0, 0, 0)
        self.checked(THREE, (0, 0, 1), 3, 1, 0)

    def test_less_metal_than_the_least_wants_by_the_first_kind(self):
        one = [source(2, 10, 10, 20, 30)]
        for kind in (1, 2, 3):
            exact = [(0, MILLION)] * 3
            exact[kind - 1] = (10 * kind, MILLION)
            self.checked(one + [want(3, *exact)], (3,), 0, 0, 6)
            exact[kind - 1] = (10 * kind + 1, MILLION)
            self.checked(one + [want(3, *exact)], (3,), 4, kind, 6)
        self.checked(one + [want(3, (11, 99), (21, 99), (31, 99))], (3,), 4, 1, 6)
        self.checked(one + [want(3, (10, 99), (21, 99), (31, 99))], (3,), 4, 2, 6)
        self.checked(THREE + [WANTED], (20, 9, 21), 4, 1, 127)

    def test_more_metal_than_the_most_lets_by_the_first_kind(self):
        one = [source(2, 10, 10, 20, 30)]
        for kind in (1, 2, 3):
            exact = [(0, MILLION)] * 3
            exact[kind - 1] = (0, 10 * kind)
            self.checked(one + [want(3, *exact)], (3,), 0, 0, 6)
            exact[kind - 1] = (0, 10 * kind - 1)
            self.checked(one + [want(3, *exact)], (3,), 5, kind, 6)
        self.checked(one + [want(3, (0, 9), (0, 19), (0, 29))], (3,), 5, 1, 6)
        self.checked(one + [want(3, (0, 10), (0, 19), (0, 29))], (3,), 5, 2, 6)
        self.checked(THREE + [WANTED], (31, 19, 0), 5, 1, 212)
        self.checked(THREE + [WANTED], ((49, 2), (51, 2), 0), 5, 2, 199)

    def test_by_less_than_a_gram(self):
        two = [source(1, 10, 1, 0, 0), source(1, 10, 0, 0, 0)]
        self.checked(two + [want(2, (1, 9))], (2, 0), 0, 0, 2)
        tiny = Fraction(1, 10 ** 11)
        self.checked(two + [want(2, (1, 9))], (2 - tiny, tiny), 4, 1, 2)
        self.checked(two + [want(2, (0, 0))], (tiny, 2 - tiny), 5, 1, 2)

    def test_several_faults_at_once(self):
        two = [source(1, 10, 10, 20, 30), source(2, 10, 10, 20, 30)]
        wrong = want(5, (11, 9), (0, 19), (31, 99))
        self.checked(two + [wrong], (11, -1), 1, 2, 9)
        self.checked(two + [wrong], (3, 11), 2, 2, 25)
        self.checked(two + [wrong], (3, 3), 3, 1, 9)
        self.checked(two + [wrong], (3, 2), 4, 1, 7)
        self.checked(two + [want(5, (0, 9), (0, 99), (31, 99))], (3, 2), 4, 3, 7)
        self.checked(two + [want(5, (0, 99), (0, 19), (0, 29))], (3, 2), 5, 2, 7)

    def test_least_above_most(self):
        one = [source(2, 10, 10, 10, 10)]
        self.checked(one + [want(5, (11, 9))], (5,), 4, 1, 10)
        self.checked(one + [want(0, (11, 9))], (0,), 0, 0, 0)

    def test_the_cost_has_as_many_digits_as_it_needs(self):
        two = [source(MILLION, 10), source(MILLION, 10), want(5)]
        self.checked(two, (FRACTION_MOST, FRACTION_MOST), 2, 1, 2 * 10 ** 18)
        self.checked(two, (-FRACTION_MOST, -FRACTION_MOST), 1, 1, -2 * 10 ** 18)
        amounts = ((1, FRACTION_MOST - 1), (1, FRACTION_MOST - 11))
        cost = sum(Fraction(*one) for one in amounts) * MILLION
        self.checked(two, amounts, 3, 1, cost)
        self.assertGreater(cost.denominator, 10 ** 16)

    def test_offered_ore(self):
        calls = [pile(2), put(1, 3, 1, 0, 0), put(1, 4, 2, 0, 0), offer(1, 2)]
        self.checked(calls + [want(7, (428, 429))], (7,), 0, 0, 14)
        self.checked(calls + [want(7, (429, 430))], (7,), 4, 1, 14)
        self.checked(calls + [want(7, (0, 428))], (7,), 5, 1, 14)
