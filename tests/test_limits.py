"""How many piles, sources and lots there may be, how much a pile holds, and which refusal comes first."""

from tests.line import LineTest, ask, last, lots, lots_told, move, offer, pile, put, source, take, told


def full(number, count=30):
    """So many lots of 2 kg each."""
    return [put(number, 2, 1, 2, 3) for k in range(count)]


class HowManyTest(LineTest):
    def test_six_piles_and_a_seventh(self):
        piles = [pile(k % 3, k + 1) for k in range(6)]
        self.assertEqual(ask(*piles), [[0, number] for number in range(1, 7)])
        for sort in (0, 1, 2):
            self.refused(-3, pile(sort), piles)
        self.not_refused(told(6), piles + [pile(0)])
        self.refused(-1, told(7), piles + [pile(0)])

    def test_six_sources_and_a_seventh(self):
        sources = [source(k, k, k, k, k) for k in range(6)]
        self.assertEqual(ask(*sources), [[0, number] for number in range(1, 7)])
        self.refused(-3, source(1, 1, 1, 1, 1), sources)
        held = [pile(0), put(1, 5)]
        self.refused(-3, offer(1), held + sources)
        self.refused(-3, source(), held + sources[:5] + [offer(1)])

    def test_offers_and_sources_are_numbered_together(self):
        rows = ask(pile(0), put(1, 5), offer(1), source(), offer(1), source(), offer(1), offer(1), offer(1), source())
        self.assertEqual(rows[2:], [[0, number] for number in range(1, 7)] + [[-3], [-3]])

    def test_thirty_lots_and_one_more_by_put(self):
        for sort in (0, 1):
            before = [pile(sort)] + full(1, 29)
            self.assertEqual(last(*before, put(1, 7)), [0, 65])
            self.refused(-3, put(1, 1, 1, 1, 1), before + [put(1, 7)])
            self.not_refused(put(1, 1), before + [put(1, 7), take(1, 7)])
        rows = ask(pile(2), *full(1), put(1, 7), told(1))
        self.assertEqual(rows[-2:], [[0, 67], [0, 2, 10 ** 9, 67, 30, 1, 60, 1, 90, 1, 1]])

    def test_a_lot_taken_in_part_still_counts(self):
        for sort in (0, 1):
            self.refused(-3, put(1, 1), [pile(sort)] + full(1) + [take(1, 1)])
            self.not_refused(put(1, 1), [pile(sort)] + full(1) + [take(1, 2)])

    def test_thirty_lots_by_move_with_whole_lots(self):
        for sort in (0, 1):
            for other in (0, 1):
                before = [pile(sort), pile(other)] + full(1, 5) + full(2, 27)
                self.assertEqual(last(*before, move(1, 2, 6))[:3], [0, 4, 60])
                self.refused(-3, move(1, 2, 8), before)
                self.refused(-3, move(1, 2, 10), before)

    def test_thirty_lots_by_move_with_a_part(self):
        for sort in (0, 1):
            for other in (0, 1):
                before = [pile(sort), pile(other)] + full(1, 5) + full(2, 27)
                self.assertEqual(last(*before, move(1, 2, 5), lots(2))[:2], [0, 30])
                self.refused(-3, move(1, 2, 7), before)

    def test_a_part_alone_is_one_too_many(self):
        for sort in (0, 1, 2):
            for other in (0, 1):
                self.refused(-3, move(1, 2, 1), [pile(sort), pile(other)] + full(1, 2) + full(2, 30))

    def test_one_part_of_a_mixed_pile(self):
        for other in (0, 1):
            before = [pile(2), pile(other)] + full(1, 5) + full(2, 29)
            self.assertEqual(last(*before, move(1, 2, 9))[:3], [0, 1, 67])
            self.refused(-3, move(1, 2, 1), before + [move(1, 2, 9)])

    def test_a_mixed_pile_has_room_for_any_lots(self):
        for sort in (0, 1):
            rows = ask(pile(sort), pile(2), *full(1), *full(2, 40), move(1, 2, 60), told(2), told(1))
            self.assertEqual(rows[-3], [0, 0, 140, 30, 1, 60, 1, 90, 1])
            self.assertEqual(rows[-2], [0, 2, 10 ** 9, 140, 70, 1, 140, 1, 210, 1, 1])
            self.assertEqual(rows[-1], [0, sort, 10 ** 9, 0, 0, 1, 0, 1, 0, 1, 0])

    def test_all_thirty_lots_move(self):
        for sort in (0, 1):
            for other in (0, 1):
                rows = ask(pile(sort), pile(other), *full(1), move(1, 2, 60), lots(2), told(1))
                self.assertEqual(len(lots_told(rows[-2])), 30)
                self.assertEqual(rows[-1][-1], 0)

    def test_thirty_lots_are_taken_at_once(self):
        for sort in (0, 1):
            answer = last(pile(sort), *full(1), take(1, 59))
            self.assertEqual(answer, [0, 1, 59, 2, 59, 1, 177, 2, 30] + [2] * 29 + [1])


class MostTest(LineTest):
    def test_put_to_just_the_most_and_one_more(self):
        for sort in (0, 1, 2):
            self.assertEqual(last(pile(sort, 10), put(1, 10)), [0, 10])
            self.refused(-2, put(1, 11), [pile(sort, 10)])
            before = [pile(sort, 10), put(1, 6, 1, 1, 1)]
            self.assertEqual(last(*before, put(1, 4)), [0, 10])
            self.refused(-2, put(1, 5, 1, 1, 1), before)
            self.refused(-2, put(1, 1), before + [put(1, 4)])
            self.assertEqual(last(*before, put(1, 4), take(1, 3), put(1, 3)), [0, 10])

    def test_the_least_most(self):
        for sort in (0, 1, 2):
            self.not_refused(put(1, 1), [pile(sort, 1)])
            self.refused(-2, put(1, 2), [pile(sort, 1)])
            self.refused(-2, put(1, 1), [pile(sort, 1), put(1, 1)])

    def test_move_to_just_the_most_and_one_more(self):
        for sort in (0, 1, 2):
            for other in (0, 1, 2):
                before = [pile(sort), pile(other, 10), put(1, 4), put(1, 8, 1, 1, 1), put(2, 3, 2, 2, 2)]
                self.assertEqual(last(*before, move(1, 2, 7))[:3], [0, 5, 10])
                self.refused(-2, move(1, 2, 8), before)
                self.refused(-2, move(1, 2, 1), before + [move(1, 2, 7)])


class OrderTest(LineTest):
    def test_pile_and_source_out_of_range_where_there_are_six(self):
        self.refused(-1, pile(3), [pile(0)] * 6)
        self.refused(-1, pile(0, 0), [pile(0)] * 6)
        self.refused(-1, source(-1), [source()] * 6)
        self.refused(-1, source(0, 0, 0, 0, 1000001), [source()] * 6)

    def test_put(self):
        for sort in (0, 1):
            before = [pile(sort, 60)] + full(1)
            self.refused(-2, put(1, 1), before)
            self.refused(-1, put(1, 0), before)
            self.refused(-1, put(1, 1, 0, 0, -1), before)
            self.refused(-2, put(1, 2), [pile(sort, 61)] + full(1))
            self.refused(-3, put(1, 1), [pile(sort, 61)] + full(1))

    def test_take(self):
        self.refused(-1, take(1, 0), [pile(0)])
        self.refused(-1, take(1, 1000000001), [pile(0)])
        self.refused(-4, take(1, 1000000000), [pile(0)])

    def test_move_out_of_range_first(self):
        before = [pile(0), pile(1, 60)] + full(2)
        self.refused(-1, move(1, 1, 1), before)
        self.refused(-1, move(1, 3, 1), before)
        self.refused(-1, move(1, 2, 0), before)
        self.refused(-1, move(1, 2, 1000000001), before)

    def test_move_then_too_little(self):
        for other in (0, 1):
            self.refused(-4, move(1, 2, 1), [pile(0), pile(other, 60)] + full(2))
            self.refused(-4, move(1, 2, 3), [pile(0), pile(other, 60)] + full(1, 1) + full(2))
            self.refused(-4, move(1, 2, 3), [pile(0), pile(other)] + full(1, 1) + full(2))
        self.refused(-4, move(1, 2, 5), [pile(0), pile(2, 4)] + full(1, 2))

    def test_move_then_too_heavy(self):
        for other in (0, 1):
            before = [pile(0), pile(other, 61)] + full(1, 2) + full(2)
            self.refused(-2, move(1, 2, 2), before)
            self.refused(-3, move(1, 2, 1), before)

    def test_offer(self):
        six = [source()] * 6
        self.refused(-4, offer(1), [pile(0)] + six)
        self.refused(-1, offer(1, -1), [pile(0)] + six)
        self.refused(-1, offer(2), [pile(0)] + six)
        self.refused(-1, offer(1, 1000001), [pile(0)])
        self.refused(-3, offer(1), [pile(0), put(1, 1)] + six)
