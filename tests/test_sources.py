"""source, offer, clear, want and sources: which sources there are, and what is wanted."""

from tests.line import (
    MILLION, LineTest, ask, blend, check, clear, last, most, move, never, offer, pile, proof, put, source, sources,
    sources_told, sums, take, told, want,
)

WANTED_AT_FIRST = [0, 0, 0, MILLION, 0, MILLION, 0, MILLION]
SIX = [source(k, 10 * k, k, 2 * k, 1000 * k) for k in range(1, 7)]


def sources_after(*calls):
    return sources_told(last(*calls, sources()))


class SourceTest(LineTest):
    def test_numbers_as_they_come(self):
        self.assertEqual(ask(source(5, 6, 7, 8, 9), source(), source(1, 1, 1, 1, 1)), [[0, 1], [0, 2], [0, 3]])

    def test_grades_are_grams_a_tonne_divided_by_1000(self):
        self.assertEqual(sources_after(source(7, 30, 1500, 0, 1000000), source(0, 0, 1, 999, 8)), [
            (7, 30, ((3, 2), (0, 1), (1000, 1))),
            (0, 0, ((1, 1000), (999, 1000), (1, 125))),
        ])

    def test_sources_are_no_piles(self):
        rows = ask(source(1, 2, 3, 4, 5), sums(), offer(1), take(1, 1))
        self.assertEqual(rows[1:], [[0] + [0, 0, 1, 0, 1, 0, 1] * 3, [-1], [-1]])


class OfferTest(LineTest):
    def test_the_piles_kilograms_and_its_metal_divided_by_them(self):
        for sort in (0, 1, 2):
            calls = [pile(sort), put(1, 5, 10, 1, 0), put(1, 3, 4, 6, 0), put(1, 4, 2, 8, 9), offer(1, 44)]
            self.assertEqual(last(*calls), [0, 1])
            self.assertEqual(sources_after(*calls), [(44, 12, ((4, 3), (5, 4), (3, 4)))])

    def test_a_pile_of_which_a_part_was_taken(self):
        calls = [pile(1), put(1, 3, 1, 1, 1), put(1, 1, 0, 2, 5), take(1, 1), offer(1)]
        self.assertEqual(sources_after(*calls), [(0, 3, ((2, 9), (8, 9), (17, 9)))])

    def test_ore_without_metal(self):
        self.assertEqual(sources_after(pile(2), put(1, 7), offer(1, 3)), [(3, 7, ((0, 1),) * 3)])

    def test_more_kilograms_than_a_source_could_be_told_with(self):
        calls = [pile(2)] + [put(1, 1000000, 1, 0, 1000000000)] * 3 + [offer(1)]
        self.assertEqual(sources_after(*calls), [(0, 3000000, ((1, 1000000), (0, 1), (1000, 1)))])

    def test_the_pile_stays_as_it_is(self):
        for sort in (0, 1, 2):
            rows = ask(pile(sort), put(1, 5, 10, 1, 0), put(1, 3, 4, 6, 0), [5, 1], sums(), offer(1), [5, 1], sums())
            self.assertEqual(rows[-2:], rows[3:5])

    def test_what_happens_to_the_pile_later_does_not_matter(self):
        for sort in (0, 1, 2):
            before = [pile(sort), pile(2), put(1, 4, 3, 2, 1), put(1, 2, 6, 0, 8), offer(1, 9)]
            then = [(9, 6, ((3, 2), (1, 3), (3, 2)))]
            for later in (put(1, 1, 5, 5, 5), take(1, 1), take(1, 6), move(1, 2, 5), move(1, 2, 6)):
                self.assertEqual(sources_after(*before, later), then, later)
            changed = sources_after(*before, put(1, 2, 9, 9, 9), offer(1, 9))
            self.assertEqual(changed, then + [(9, 8, ((9, 4), (11, 8), (9, 4)))])

    def test_nothing_on_the_pile(self):
        for sort in (0, 1, 2):
            self.refused(-4, offer(1, 5), [pile(sort)])
            self.refused(-4, offer(1, 5), [pile(sort), put(1, 3, 1, 1, 1), take(1, 3)])
            self.refused(-4, offer(1, 5), [pile(sort), pile(0), put(1, 3, 1, 1, 1), move(1, 2, 3)])

    def test_a_mixed_pile_with_large_numbers_below(self):
        calls = [pile(2), pile(2), put(1, 999983, 1, 999999937, 6), put(2, 999979, 2, 30, 0)]
        for n in range(20):
            calls.extend([move(1, 2, 7919 + n), move(2, 1, 7907 + 3 * n)])
        told_pile = ask(*calls, [5, 1], offer(1, 4), sources())
        self.assertEqual(told_pile[-1], WANTED_AT_FIRST + [1, 4] + told_pile[-3][2:])
        self.assertGreater(told_pile[-1][-1], 10 ** 60)


class ClearTest(LineTest):
    def test_no_sources_any_more(self):
        for count in (0, 1, 6):
            rows = ask(*SIX[:count], clear(), sources())
            self.assertEqual(rows[-2:], [[0], WANTED_AT_FIRST + [0]])

    def test_numbers_begin_anew(self):
        rows = ask(*SIX, source(), clear(), source(9, 8, 7, 6, 5), *SIX[:5], source())
        self.assertEqual(rows[6:], [[-3], [0]] + [[0, number] for number in range(1, 7)] + [[-3]])
        self.assertEqual(sources_after(*SIX, clear(), source(9, 8, 1000, 2000, 0)), [(9, 8, ((1, 1), (2, 1), (0, 1)))])

    def test_what_is_wanted_stays(self):
        rows = ask(source(), want(7, (1, 2), (3, 4), (5, 6)), clear(), sources())
        self.assertEqual(rows[-1], [0, 7, 1, 2, 3, 4, 5, 6, 0])

    def test_piles_stay(self):
        rows = ask(pile(0), put(1, 5, 1, 2, 3), offer(1), told(1), sums(), clear(), told(1), sums())
        self.assertEqual(rows[-2:], rows[3:5])

    def test_twice(self):
        self.assertEqual(ask(*SIX, clear(), clear(), sources())[-3:], [[0], [0], WANTED_AT_FIRST + [0]])


class WantTest(LineTest):
    def test_at_the_beginning(self):
        self.assertEqual(ask(sources()), [WANTED_AT_FIRST + [0]])

    def test_each_number_in_its_place(self):
        for count in (0, 1, 6):
            rows = ask(*SIX[:count], want(10, (11, 12), (13, 14), (15, 16)), sources())
            self.assertEqual(rows[-2], [0])
            self.assertEqual(rows[-1][:9], [0, 10, 11, 12, 13, 14, 15, 16, count])

    def test_the_last_one_holds(self):
        rows = ask(want(10, (11, 12), (13, 14), (15, 16)), want(1, (2, 3), (4, 5), (6, 7)), sources())
        self.assertEqual(rows[-1], [0, 1, 2, 3, 4, 5, 6, 7, 0])

    def test_least_above_most_is_not_refused(self):
        rows = ask(want(5, (2, 1), (MILLION, 0), (3, 2)), sources())
        self.assertEqual(rows, [[0], [0, 5, 2, 1, MILLION, 0, 3, 2, 0]])

    def test_sources_stay(self):
        self.assertEqual(sources_after(*SIX, want(5, (1, 2))), sources_after(*SIX))


class SourcesTest(LineTest):
    def test_one(self):
        rows = ask(source(7, 30, 1500, 0, MILLION), sources())
        self.assertEqual(rows[-1], WANTED_AT_FIRST + [1, 7, 30, 3, 2, 0, 1, 1000, 1])

    def test_six_in_their_order(self):
        answer = last(pile(1), put(1, 4, 6, 1, 0), *SIX[:3], offer(1, 77), *SIX[4:], sources())
        told_six = [1, 10, 1, 1000, 1, 500, 1, 1]
        told_six += [2, 20, 1, 500, 1, 250, 2, 1]
        told_six += [3, 30, 3, 1000, 3, 500, 3, 1]
        told_six += [77, 4, 3, 2, 1, 4, 0, 1]
        told_six += [5, 50, 1, 200, 1, 100, 5, 1]
        told_six += [6, 60, 3, 500, 3, 250, 6, 1]
        self.assertEqual(answer, WANTED_AT_FIRST + [6] + told_six)

    def test_refusals_leave_all_as_it_was(self):
        before = [pile(0), *SIX, want(5, (1, 2), (3, 4), (5, 6))]
        self.refused(-3, source(1, 1, 1, 1, 1), before)
        self.refused(-4, offer(1), before)
        self.refused(-1, offer(2), before)
        self.refused(-1, want(MILLION + 1), before)
        self.refused(-1, want(4, (0, -1)), before)
        self.refused(-1, [10, 4, 5, 0, 0, 0, 0, 0], before)
        self.refused(-1, check(1, 2, 3), before)
        self.refused(-1, proof([0] * 6, [0] * 12), before)
        self.refused(-1, never([0] * 14), before)

    def test_looking_changes_nothing(self):
        before = [*SIX, want(100, (1, 5), (0, 9), (0, 5000))]
        looks = [blend(), most(), [13, 1], [13, 2], [13, 3], check(*[1] * 6), proof([1] * 6, [1] * 13), never([1] * 13)]
        rows = ask(*before, *looks, sources(), *looks)
        self.assertEqual(rows[15], last(*before, sources()))
        self.assertEqual(rows[16:], rows[7:15])
