"""source and offer, and what the new source holds."""

from tests.line import LineTest, ask, last, move, offer, pile, put, source, sums, take, yard_after


def sources_after(*calls):
    return [(one.cost, one.kilograms, one.grades) for one in yard_after(*calls).sources]


class SourceTest(LineTest):
    def test_numbers_as_they_come(self):
        self.assertEqual(ask(source(5, 6, 7, 8, 9), source(), source(1, 1, 1, 1, 1)), [[0, 1], [0, 2], [0, 3]])

    def test_grades_are_grams_a_tonne_divided_by_1000(self):
        self.assertEqual(sources_after(source(7, 30, 1500, 0, 1000000), source(0, 0, 1, 999, 8)), [
            (7, 30, ((3, 2), (0, 1), (1000, 1))),
            (0, 0, ((1, 1000), (999, 1000), (1, 125))),
        ])

    def test_sources_are_no_piles(self):
        rows = ask(source(1, 2, 3, 4, 5), sums(), offer(1), take(1, 1))
        self.assertEqual(rows[1:], [[0] + [0, 0, 1, 0, 1, 0, 1] * 3, [-1], [-1]])


class OfferTest(LineTest):
    def test_the_piles_kilograms_and_its_metal_divided_by_them(self):
        for sort in (0, 1, 2):
            calls = [pile(sort), put(1, 5, 10, 1, 0), put(1, 3, 4, 6, 0), put(1, 4, 2, 8, 9), offer(1, 44)]
            self.assertEqual(last(*calls), [0, 1])
            self.assertEqual(sources_after(*calls), [(44, 12, ((4, 3), (5, 4), (3, 4)))])

    def test_a_pile_of_which_a_part_was_taken(self):
        calls = [pile(1), put(1, 3, 1, 1, 1), put(1, 1, 0, 2, 5), take(1, 1), offer(1)]
        self.assertEqual(sources_after(*calls), [(0, 3, ((2, 9), (8, 9), (17, 9)))])

    def test_ore_without_metal(self):
        self.assertEqual(sources_after(pile(2), put(1, 7), offer(1, 3)), [(3, 7, ((0, 1),) * 3)])

    def test_more_kilograms_than_a_source_could_be_told_with(self):
        calls = [pile(2)] + [put(1, 1000000, 1, 0, 1000000000)] * 3 + [offer(1)]
        self.assertEqual(sources_after(*calls), [(0, 3000000, ((1, 1000000), (0, 1), (1000, 1)))])

    def test_the_pile_stays_as_it_is(self):
        for sort in (0, 1, 2):
            rows = ask(pile(sort), put(1, 5, 10, 1, 0), put(1, 3, 4, 6, 0), [5, 1], sums(), offer(1), [5, 1], sums())
            self.assertEqual(rows[-2:], rows[3:5])

    def test_what_happens_to_the_pile_later_does_not_matter(self):
        for sort in (0, 1, 2):
            before = [pile(sort), pile(2), put(1, 4, 3, 2, 1), put(1, 2, 6, 0, 8), offer(1, 9)]
            then = [(9, 6, ((3, 2), (1, 3), (3, 2)))]
            for later in (put(1, 1, 5, 5, 5), take(1, 1), take(1, 6), move(1, 2, 5), move(1, 2, 6)):
                self.assertEqual(sources_after(*before, later), then, later)
            changed = sources_after(*before, put(1, 2, 9, 9, 9), offer(1, 9))
            self.assertEqual(changed, then + [(9, 8, ((9, 4), (11, 8), (9, 4)))])

    def test_nothing_on_the_pile(self):
        for sort in (0, 1, 2):
            self.refused(-4, offer(1, 5), [pile(sort)])
            self.refused(-4, offer(1, 5), [pile(sort), put(1, 3, 1, 1, 1), take(1, 3)])
            self.refused(-4, offer(1, 5), [pile(sort), pile(0), put(1, 3, 1, 1, 1), move(1, 2, 3)])
