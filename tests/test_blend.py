"""blend: the cheapest blend, which of several it is, and where there is none."""

import random
from fractions import Fraction

from tests.line import (
    MILLION, LineTest, ask, blend, check, clear, last, move, offer, pairs, pile, put, source, sources, sources_told,
    want,
)

NONE = [0, 0]
ANY = (0, MILLION)


def only(kind, bounds):
    """Leasts and mosts that bind this kind alone."""
    return [bounds if one == kind else ANY for one in (1, 2, 3)]


def ore(cost, kilograms, kind, grams):
    """A source with metal of one kind."""
    return source(cost, kilograms, *[grams if one == kind else 0 for one in (1, 2, 3)])


class BlendTest(LineTest):
    def blended(self, calls, cost, *amounts):
        """The last call's answer tells this blend."""
        self.assertEqual(last(*calls, blend()), [0, 1] + pairs([cost, *amounts]), calls)

    def none(self, calls):
        self.assertEqual(last(*calls, blend()), NONE, calls)


class OrdinaryTest(BlendTest):
    def test_two_sources_that_make_up_a_grade(self):
        for kind in (1, 2, 3):
            two = [ore(5, 100, kind, 2000), ore(3, 100, kind, 1000)]
            self.blended(two + [want(50, *only(kind, (1500, 3000)))], 200, 25, 25)
            self.blended(two + [want(50, *only(kind, (1000, 1500)))], 150, 0, 50)
            self.blended(two[::-1] + [want(50, *only(kind, (1500, 1500)))], 200, 25, 25)
            self.blended(two + [want(50, *only(kind, (1200, 1900)))], 170, 10, 40)

    def test_parts_of_a_kilogram(self):
        two = [source(0, 10, 0, 0, 0), source(1, 10, 3, 0, 0)]
        self.blended(two + [want(1, (1, 9))], Fraction(1, 3), Fraction(2, 3), Fraction(1, 3))
        self.blended(two + [want(5, (2, 3))], Fraction(10, 3), Fraction(5, 3), Fraction(10, 3))

    def test_no_sources(self):
        self.blended([], 0)
        self.blended([want(0, (5, 4), (3, 2), (MILLION, 0))], 0)
        self.none([want(1)])
        self.none([want(MILLION)])
        self.none([source(0, 10), want(1), clear()])

    def test_one_source(self):
        self.blended([source(7, 10, 5, 5, 5), want(10)], 70, 10)
        self.blended([source(7, 10, 5, 5, 5), want(3)], 21, 3)
        self.none([source(7, 10, 5, 5, 5), want(11)])
        self.blended([source(MILLION, MILLION, MILLION, MILLION, MILLION), want(MILLION)], 10 ** 12, MILLION)

    def test_six_sources(self):
        six = [source(6 - k, 10, k, k, k) for k in range(6)]
        self.blended(six + [want(25)], 45, 0, 0, 0, 5, 10, 10)
        self.blended(six + [want(25, (0, 2))], 100, 0, (15, 2), 10, (15, 2), 0, 0)
        self.blended(six + [want(60)], 210, 10, 10, 10, 10, 10, 10)

    def test_three_kinds_at_once(self):
        three = [source(9, 100, 10, 0, 0), source(8, 100, 0, 10, 0), source(7, 100, 0, 0, 10), source(0, 100, 0, 0, 0)]
        self.blended(three + [want(10, (1, 9), (2, 9), (3, 9))], 46, 1, 2, 3, 4)
        self.blended(three + [want(10, (1, 9), (2, 9), (7, 9))], 74, 1, 2, 7, 0)
        self.none(three + [want(10, (1, 9), (2, 9), (8, 9))])

    def test_sources_as_they_are_now(self):
        calls = [source(5, 10), want(8), blend(), source(2, 3), blend(), clear(), blend(), source(1, 9), blend()]
        rows = ask(*calls)
        self.assertEqual(rows[2::2], [[0, 1, 40, 1, 8, 1], [0, 1, 31, 1, 5, 1, 3, 1], NONE, [0, 1, 8, 1, 8, 1]])


class WhichOfSeveralTest(BlendTest):
    def test_they_differ_in_source_1(self):
        two = [source(2, 10, 1, 1, 1), source(2, 10, 1, 1, 1)]
        self.blended(two + [want(10)], 20, 0, 10)
        self.blended(two + [want(7)], 14, 0, 7)
        self.blended(two + [want(15)], 30, 5, 10)
        self.blended([source(2, 10), source(3, 10), source(2, 4), want(7)], 14, 3, 0, 4)

    def test_they_agree_in_source_1_and_differ_in_a_later_one(self):
        rest = [source(4, 10), source(4, 10), source(4, 10)]
        self.blended([source(9, 10)] + rest + [want(10)], 40, 0, 0, 0, 10)
        self.blended([source(1, 3)] + rest + [want(15)], 51, 3, 0, 2, 10)
        self.blended([source(4, 10)] + rest + [want(33)], 132, 3, 10, 10, 10)
        self.blended([source(1, 3), source(1, 3)] + rest + [want(15)], 42, 3, 3, 0, 0, 9)
        self.blended([ore(5, 10, 1, 2), *[source(0, 10)] * 3, want(8, (1, 2))], 20, 4, 0, 0, 4)

    def test_source_1_is_not_needed_where_two_others_make_up_the_same(self):
        three = [ore(1, 10, 2, 1), ore(0, 3, 2, 0), ore(2, 10, 2, 2)]
        self.blended(three + [want(6, *only(2, (1, 1)))], 6, 0, 3, 3)
        self.blended(three + [want(10, *only(2, (1, 1)))], 10, 4, 3, 3)
        turned = [three[1], three[0], three[2]]
        self.blended(turned + [want(6, *only(2, (1, 1)))], 6, 0, 6, 0)
        self.blended(turned + [want(12, *only(2, (1, 1)))], 12, 1, 10, 1)

    def test_the_last_takes_what_is_left(self):
        for count in range(1, 7):
            alike = [source(3, 10, 2, 2, 2) for k in range(count)]
            amount = 10 * count - 5
            self.blended(alike + [want(amount)], 3 * amount, *[5] + [10] * (count - 1))

    def test_all_costs_0(self):
        self.blended([source(0, 5), source(0, 5), source(0, 5), want(8)], 0, 0, 3, 5)

    def test_less_cost_comes_before_less_of_source_1(self):
        self.blended([source(1, 10), source(2, 10), want(10)], 10, 10, 0)
        self.blended([source(999999, 10), source(MILLION, 10), want(10)], 9999990, 10, 0)

    def test_equal_grades_and_unequal_costs(self):
        three = [source(c, 10, 7, 8, 9) for c in (5, 4, 6)]
        self.blended(three + [want(12, (7, 7), (8, 8), (9, 9))], 50, 2, 10, 0)

    def test_unequal_grades_and_equal_costs(self):
        three = [source(5, 10, 9, 0, 0), source(5, 10, 6, 0, 0), source(5, 10, 0, 0, 0)]
        self.blended(three + [want(12, (4, 6))], 60, 0, 8, 4)
        self.blended(three + [want(12, (6, 6))], 60, (4, 3), 10, (2, 3))


class EdgesTest(BlendTest):
    def test_sources_of_0_kilograms(self):
        self.blended([source(1, 0), source(5, 10), source(0, 0), want(4)], 20, 0, 4, 0)
        self.blended([source(1, 0), want(0)], 0, 0)
        self.none([source(1, 0), want(1)])
        self.none([source(1, 0), source(0, 0), want(1)])
        self.none([ore(1, 0, 1, 9), ore(1, 10, 1, 1), want(4, (2, 9))])

    def test_amount_0(self):
        for count in (1, 3, 6):
            some = [source(5, 10, 1, 2, 3) for k in range(count)]
            for bounds in ((ANY, ANY, ANY), ((9, 9), (9, 9), (9, 9)), ((5, 4), (3, 2), (1, 0))):
                self.blended(some + [want(0, *bounds)], 0, *[0] * count)
        self.blended([source(5, 10)], 0, 0)

    def test_least_and_most_by_one_gram_a_tonne_of_one_source(self):
        for kind in (1, 2, 3):
            one = [source(1, 10, 1500, 1500, 1500)]
            for bounds in ((1500, 1500), (1500, MILLION), (0, 1500)):
                self.blended(one + [want(10, *only(kind, bounds))], 10, 10)
            for bounds in ((1501, MILLION), (0, 1499), (1501, 1501), (1499, 1499), (1501, 1499)):
                self.none(one + [want(10, *only(kind, bounds))])

    def test_least_and_most_by_one_gram_a_tonne_of_two_sources(self):
        for kind in (1, 2, 3):
            two = [ore(1, 10, kind, 1000), ore(1, 10, kind, 2000)]
            for bounds in ((1500, 1500), (1500, MILLION), (0, 1500)):
                self.blended(two + [want(20, *only(kind, bounds))], 20, 10, 10)
            for bounds in ((1501, MILLION), (0, 1499)):
                self.none(two + [want(20, *only(kind, bounds))])
            for bounds in ((2001, MILLION), (0, 999)):
                self.none(two + [want(1, *only(kind, bounds))])
            self.blended(two + [want(10, *only(kind, (2000, 2000)))], 10, 0, 10)
            self.blended(two + [want(10, *only(kind, (1000, 1000)))], 10, 10, 0)

    def test_grades_at_the_ends(self):
        self.blended([source(1, 1, MILLION, MILLION, MILLION), want(1, *[(MILLION, MILLION)] * 3)], 1, 1)
        self.blended([source(1, 1), want(1, *[(0, 0)] * 3)], 1, 1)
        self.none([source(1, 1, 0, 0, 1), want(1, *[(0, 0)] * 3)])

    def test_offered_ore_above_the_greatest_most(self):
        rich = [pile(0), put(1, 1, 0, 1001, 0), offer(1, 3)]
        self.none(rich + [want(1)])
        self.blended(rich + [source(9, 1000), want(1)], (3009, 1001), (1000, 1001), (1, 1001))
        self.blended([pile(0), put(1, 1, 0, 1000, 0), offer(1, 3), want(1)], 3, 1)

    def test_least_above_most(self):
        for kind in (1, 2, 3):
            two = [source(1, 10, 5, 5, 5), source(1, 10, 9, 9, 9)]
            self.none(two + [want(1, *only(kind, (7, 6)))])
            self.blended(two + [want(1, *only(kind, (7, 7)))], 1, (1, 2), (1, 2))

    def test_used_up_to_the_last_kilogram(self):
        six = [source(k, 7 * k, k, k, k) for k in (3, 1, 2, 6, 5, 4)]
        total = 7 * 21
        self.blended(six + [want(total)], 7 * 91, 21, 7, 14, 42, 35, 28)
        self.none(six + [want(total + 1)])
        self.blended(six + [want(total - 1)], 7 * 91 - 6, 21, 7, 14, 41, 35, 28)

    def test_none_because_of_each_kinds_least_or_most_alone(self):
        two = [source(1, 10, 20, 30, 40), source(2, 10, 22, 33, 44)]
        for kind in (1, 2, 3):
            self.blended(two + [want(10, *only(kind, (20 + 10 * (kind - 1), 100)))], 10, 10, 0)
            self.none(two + [want(10, *only(kind, (22 + 11 * (kind - 1) + 1, 100)))])
            self.none(two + [want(10, *only(kind, (0, 20 + 10 * (kind - 1) - 1)))])

    def test_none_because_two_kinds_do_not_go_together(self):
        two = [source(1, 10, 10, 0, 0), source(1, 10, 0, 0, 10)]
        self.blended(two + [want(10, (5, 10), ANY, (5, 10))], 10, 5, 5)
        self.none(two + [want(10, (5, 10), ANY, (6, 10))])
        self.none(two + [want(10, (0, 4), ANY, (0, 5))])

    def test_none_because_there_is_too_little_of_the_rich_one(self):
        two = [ore(1, 4, 3, 10), ore(1, 100, 3, 0)]
        self.blended(two + [want(8, *only(3, (5, 10)))], 8, 4, 4)
        self.none(two + [want(9, *only(3, (5, 10)))])


class OfferedTest(BlendTest):
    def test_fractions_with_large_numbers_below(self):
        calls = [pile(2), pile(2), put(1, 999983, 10, 999999937, 6), put(2, 999979, 99999, 30, 0)]
        for n in range(30):
            calls.extend([move(1, 2, 7919 + n), move(2, 1, 7907 + 3 * n)])
        calls += [offer(1, 2), offer(2, 5)]
        here = sources_told(last(*calls, sources()))
        first, second = [[Fraction(*grade) for grade in one[2]] for one in here]
        self.assertGreater(here[0][2][0][1], 10 ** 100)
        low = int(1000 * second[1])
        high = int(1000 * first[1])
        least = (low + high) // 2
        share = (Fraction(least, 1000) - second[1]) / (first[1] - second[1])
        self.blended(calls + [want(1000, ANY, (0, least))], 5000 - 3000 * share, 1000 * share, 1000 - 1000 * share)
        self.none(calls + [want(1000, ANY, (high + 1, MILLION))])

    def test_more_than_a_million_kilograms_are_there(self):
        calls = [pile(0)] + [put(1, MILLION, 3, 3, 3)] * 3 + [offer(1, 7), source(8, 10), want(MILLION)]
        self.blended(calls, 7 * MILLION, MILLION, 0)

    def test_a_pile_offered_twice(self):
        calls = [pile(1), put(1, 10, 1, 1, 1), offer(1, 3), offer(1, 2), want(15)]
        self.blended(calls, 35, 5, 10)


class CheckedTest(BlendTest):
    def test_check_finds_nothing_wrong_and_no_neighbour_is_cheaper(self):
        dice = random.Random(11)
        seen = 0
        for k in range(150):
            some = [source(*[dice.randrange(30) for n in range(5)]) for m in range(6)]
            wanted = want(dice.randrange(1, 40), *[(dice.randrange(12), dice.randrange(12, 30)) for n in range(3)])
            answer = last(*some, wanted, blend())
            if answer == NONE:
                continue
            seen += 1
            amounts = [tuple(answer[n:n + 2]) for n in range(4, len(answer), 2)]
            self.assertEqual(last(*some, wanted, check(*amounts)), [0, 0, 0] + answer[2:4])
            cost = Fraction(*answer[2:4])
            whole = [Fraction(*one) for one in amounts]
            for here in range(6):
                for other in range(6):
                    step = Fraction(dice.randrange(1, 5), 8) * ((here < other) - (here > other))
                    near = list(whole)
                    near[here] -= step
                    near[other] += step
                    checked = last(*some, wanted, check(*near))
                    if checked[1:3] == [0, 0]:
                        self.assertGreaterEqual((Fraction(*checked[3:5]), near), (cost, whole))
        self.assertGreater(seen, 50)
