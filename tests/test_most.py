"""most: the greatest amount that could be blended. range: the least and the most metal of the wanted amount."""

import random
from fractions import Fraction

from tests.line import (
    MILLION, LineTest, ask, blend, clear, last, metal_range, most, offer, pairs, pile, put, source, sources, take,
    want,
)

ANY = (0, MILLION)


def only(kind, bounds):
    return [bounds if one == kind else ANY for one in (1, 2, 3)]


def ore(cost, kilograms, kind, grams):
    return source(cost, kilograms, *[grams if one == kind else 0 for one in (1, 2, 3)])


class MostTest(LineTest):
    def greatest(self, calls, amount):
        self.assertEqual(last(*calls, most()), [0] + pairs([amount]), calls)

    def test_no_sources(self):
        self.greatest([], 0)
        self.greatest([want(5)], 0)
        self.greatest([want(0, (3, 2))], 0)
        self.greatest([source(1, 10), clear()], 0)

    def test_bound_by_what_is_there(self):
        self.greatest([source(1, 10, 5, 5, 5)], 10)
        self.greatest([source(1, 0, 5, 5, 5)], 0)
        self.greatest([source(k, 7 * k, k, k, k) for k in range(1, 7)], 147)
        self.greatest([source(0, MILLION, MILLION, MILLION, MILLION)] * 6, 6 * MILLION)
        self.greatest([source(1, 10, 5, 5, 5), want(1, (5, 5), (5, 5), (5, 5))], 10)

    def test_nothing_can_be_blended(self):
        for kind in (1, 2, 3):
            for bounds in ((6, MILLION), (0, 4), (7, 3), (6, 4)):
                self.greatest([source(1, 10, 5, 5, 5), source(1, 10, 5, 5, 5), want(1, *only(kind, bounds))], 0)
            self.greatest([ore(1, 10, kind, 5), ore(1, 0, kind, 9), want(1, *only(kind, (6, 9)))], 0)
        self.greatest([source(1, 10, 10, 0, 0), source(1, 10, 0, 10, 0), want(1, (6, 10), (6, 10))], 0)

    def test_bound_by_leasts(self):
        for kind in (1, 2, 3):
            two = [ore(1, 10, kind, 2000), ore(1, 100, kind, 0)]
            self.greatest(two + [want(1, *only(kind, (1500, MILLION)))], Fraction(40, 3))
            self.greatest(two + [want(1, *only(kind, (2000, MILLION)))], 10)
            self.greatest(two + [want(1, *only(kind, (182, MILLION)))], Fraction(20000, 182))
            self.greatest(two + [want(1, *only(kind, (181, MILLION)))], 110)

    def test_bound_by_mosts(self):
        for kind in (1, 2, 3):
            two = [ore(1, 100, kind, 2000), ore(1, 10, kind, 0)]
            self.greatest(two + [want(1, *only(kind, (0, 500)))], Fraction(40, 3))
            self.greatest(two + [want(1, *only(kind, (0, 0)))], 10)
            self.greatest(two + [want(1, *only(kind, (0, 1818)))], Fraction(20000, 182))
            self.greatest(two + [want(1, *only(kind, (0, 1819)))], 110)

    def test_bound_by_several(self):
        two = [source(1, 30, 10, 0, 0), source(1, 30, 0, 0, 10)]
        self.greatest(two + [want(1, (4, 10), ANY, (5, 10))], 60)
        self.greatest(two + [want(1, (6, 10), ANY, (4, 10))], 50)
        self.greatest(two + [want(1, (6, 10), ANY, (5, 10))], 0)
        self.greatest(two + [source(1, 30, 10, 0, 10), want(1, (6, 10), ANY, (7, 10))], Fraction(600, 7))

    def test_whatever_the_wanted_amount_is(self):
        two = [ore(1, 10, 1, 2000), ore(1, 100, 1, 0)]
        for amount in (0, 1, 13, 14, 110, 111, MILLION):
            self.greatest(two + [want(amount, (1500, MILLION))], Fraction(40, 3))
            self.greatest([want(amount, (1500, MILLION))] + two, Fraction(40, 3))
            self.greatest(two + [want(amount, (2001, MILLION))], 0)

    def test_costs_do_not_matter(self):
        for cost in (0, 1, MILLION):
            self.greatest([ore(cost, 10, 1, 2000), ore(7, 100, 1, 0), want(1, (1500, MILLION))], Fraction(40, 3))

    def test_ore_above_the_greatest_most(self):
        rich = [pile(0), put(1, 4000, 0, 4004000, 0), offer(1, 3)]
        self.greatest(rich, 0)
        self.greatest(rich + [source(0, 1, 0, 0, 0)], 1001)
        self.greatest(rich + [source(0, 1, 0, 0, 0), take(1, 4000)], 1001)

    def test_offered_ore(self):
        thirds = [pile(2), put(1, 3, 1, 0, 0), offer(1, 9)]
        self.greatest(thirds + [source(1, 3)], 6)
        self.greatest([source(1, 3)] + thirds, 6)
        self.greatest(thirds + [source(1, 30), want(1, (200, 900))], 5)
        self.greatest(thirds + [source(1, 30), want(1, (300, 900))], Fraction(10, 3))

    def ask_blend(self, calls, amount, bounds):
        return last(*calls, want(amount, *bounds), blend())

    def test_so_much_can_be_blended_and_one_more_cannot(self):
        dice = random.Random(12)
        seen = 0
        for k in range(150):
            some = [source(*[dice.randrange(30) for n in range(5)]) for m in range(6)]
            bounds = [(dice.randrange(12), dice.randrange(12, 30)) for n in range(3)]
            amount = Fraction(*last(*some, want(3, *bounds), most())[1:])
            seen += amount > 0
            self.assertEqual(self.ask_blend(some, int(amount), bounds)[:2], [0, 1])
            self.assertEqual(self.ask_blend(some, int(amount) + 1, bounds), [0, 0])
        self.assertGreater(seen, 60)


class RangeTest(LineTest):
    def ends(self, calls, kind, least, greatest):
        self.assertEqual(last(*calls, metal_range(kind)), [0, 1] + pairs([least, greatest]), calls)

    def none(self, calls):
        for kind in (1, 2, 3):
            self.assertEqual(last(*calls, metal_range(kind)), [0, 0], calls)

    def test_each_kind(self):
        two = [source(1, 10, 1000, 4000, 500), source(2, 10, 3000, 4000, 0), want(10)]
        self.ends(two, 1, 10, 30)
        self.ends(two, 2, 40, 40)
        self.ends(two, 3, 0, 5)

    def test_within_leasts_and_mosts(self):
        for kind in (1, 2, 3):
            two = [ore(1, 100, kind, 1000), ore(1, 100, kind, 5000)]
            self.ends(two + [want(10, *only(kind, (2000, 3000)))], kind, 20, 30)
            self.ends(two + [want(10, *only(kind, (2000, 2000)))], kind, 20, 20)
            self.ends(two + [want(10, *only(kind, (0, 3000)))], kind, 10, 30)
            self.ends(two + [want(10, *only(kind, (3000, MILLION)))], kind, 30, 50)
            self.ends(two + [want(110)], kind, 150, 510)
            self.ends(two + [want(200)], kind, 600, 600)

    def test_one_kinds_bounds_bind_another(self):
        two = [source(1, 100, 1000, 0, 5000), source(1, 100, 0, 3000, 1000), want(10, (500, 800))]
        self.ends(two, 1, 5, 8)
        self.ends(two, 2, 6, 15)
        self.ends(two, 3, 30, 42)

    def test_parts_of_a_gram(self):
        self.ends([source(1, 10, 1, 2, 3), source(1, 10, 4, 2, 0), want(7)], 1, Fraction(7, 1000), Fraction(28, 1000))
        self.ends([source(1, 10, 1, 2, 3), source(1, 10, 4, 2, 0), want(7)], 2, Fraction(14, 1000), Fraction(14, 1000))
        self.ends([source(1, 10, 1, 2, 3), source(1, 10, 4, 2, 0), want(13)], 3, Fraction(9, 1000), Fraction(30, 1000))

    def test_one_source(self):
        for kind in (1, 2, 3):
            self.ends([source(1, 10, 1000, 2000, 3000), want(7)], kind, 7 * kind, 7 * kind)

    def test_six_sources(self):
        six = [source(9 - k, 10, 1000 * k, 6000 - 1000 * k, 1000) for k in range(1, 7)]
        self.ends(six + [want(25)], 1, 45, 130)
        self.ends(six + [want(25)], 2, 20, 105)
        self.ends(six + [want(25)], 3, 25, 25)

    def test_no_sources(self):
        self.none([want(1)])
        for kind in (1, 2, 3):
            self.ends([], kind, 0, 0)
            self.ends([want(0, (3, 2))], kind, 0, 0)

    def test_no_blend(self):
        self.none([source(1, 10, 5, 5, 5), want(11)])
        for kind in (1, 2, 3):
            self.none([source(1, 10, 5, 5, 5), want(1, *only(kind, (6, 9)))])
            self.none([source(1, 10, 5, 5, 5), want(1, *only(kind, (0, 4)))])
            self.none([source(1, 10, 5, 5, 5), want(1, *only(kind, (5, 4)))])

    def test_amount_0(self):
        for kind in (1, 2, 3):
            for count in (0, 1, 6):
                self.ends([source(1, 10, 5, 5, 5)] * count, kind, 0, 0)
                self.ends([source(1, 10, 5, 5, 5)] * count + [want(0, (9, 9), (1, 1), (5, 4))], kind, 0, 0)

    def test_costs_do_not_matter(self):
        for cost in (0, 1, MILLION):
            self.ends([source(cost, 10, 1000, 0, 0), source(5, 10, 3000, 0, 0), want(10)], 1, 10, 30)

    def test_ore_richer_than_a_source_may_be_told(self):
        calls = [pile(0), put(1, 1, 10 ** 9, 0, 0), offer(1, 3), source(0, 10 ** 6), want(10 ** 6), sources()]
        self.ends(calls, 1, 0, 10 ** 9)
        self.ends(calls + [want(10 ** 6, (0, 999))], 1, 0, 999000)
        self.ends(calls + [want(10 ** 6, (999999, MILLION))], 1, 999999000, 10 ** 9)

    def test_the_wanted_amount_counts(self):
        rows = ask(source(1, 100, 1000, 0, 0), source(1, 100, 2000, 0, 0), want(10), metal_range(1), want(150),
                   metal_range(1), want(201), metal_range(1))
        self.assertEqual(rows[3::2], [[0, 1, 10, 1, 20, 1], [0, 1, 200, 1, 250, 1], [0, 0]])
