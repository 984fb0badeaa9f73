"""For every call, the first and the last number of each range, those just outside, and piles that aren't there."""

from tests.line import (
    WIDEST, LineTest, ask, last, lots, move, offer, pile, put, source, sums, take, told,
)

HELD = [pile(0), pile(1), put(1, 10, 20, 30, 40), put(2, 10, 1, 1, 1), source(1, 2, 3, 4, 5)]
MILLION = 1000000
MILLIARD = 1000000000


class RangeTest(LineTest):
    def range_of(self, call, place, first, final, before):
        """What lies from first to final is not refused with -1, what lies outside is."""
        for number in (first, final):
            changed = call[:place] + [number] + call[place + 1:]
            self.assertNotEqual(last(*before, changed), [-1], changed)
        for number in (first - 1, final + 1, -WIDEST, WIDEST):
            self.refused(-1, call[:place] + [number] + call[place + 1:], before)

    def test_pile(self):
        self.range_of(pile(1, 5), 1, 0, 2, HELD)
        self.range_of(pile(1, 5), 2, 1, MILLIARD, HELD)
        for call in (pile(0, 1), pile(2, MILLIARD)):
            self.not_refused(call, HELD)

    def test_put(self):
        self.range_of(put(1, 5, 6, 7, 8), 1, 1, 2, HELD)
        self.range_of(put(1, 5, 6, 7, 8), 2, 1, MILLION, HELD)
        for place in (3, 4, 5):
            self.range_of(put(1, 5, 6, 7, 8), place, 0, MILLIARD, HELD)
        self.not_refused(put(1, 1, 0, 0, 0), HELD)
        self.not_refused(put(2, MILLION, MILLIARD, MILLIARD, MILLIARD), HELD)

    def test_take(self):
        self.range_of(take(1, 1), 1, 1, 2, HELD)
        self.range_of(take(1, 1), 2, 1, MILLIARD, HELD)
        self.not_refused(take(2, 1), HELD)
        self.refused(-4, take(1, MILLIARD), HELD)

    def test_move(self):
        self.range_of(move(1, 2, 1), 3, 1, MILLIARD, HELD)
        self.not_refused(move(1, 2, 1), HELD)
        self.not_refused(move(2, 1, 1), HELD)
        for absent in (0, 3, -1, -WIDEST, WIDEST):
            self.refused(-1, move(absent, 2, 1), HELD)
            self.refused(-1, move(1, absent, 1), HELD)
            self.refused(-1, move(absent, absent, 1), HELD)

    def test_move_to_itself(self):
        for kilograms in (1, 10, 11, MILLIARD):
            self.refused(-1, move(1, 1, kilograms), HELD)
            self.refused(-1, move(2, 2, kilograms), HELD)

    def test_told_and_lots(self):
        for call in (told(1), lots(1)):
            self.range_of(call, 1, 1, 2, HELD)
            self.not_refused(call[:1] + [2], HELD)

    def test_source(self):
        for place in range(1, 6):
            self.range_of(source(1, 2, 3, 4, 5), place, 0, MILLION, HELD)
        self.not_refused(source(0, 0, 0, 0, 0), HELD)
        self.not_refused(source(MILLION, MILLION, MILLION, MILLION, MILLION), HELD)

    def test_offer(self):
        self.range_of(offer(1, 5), 1, 1, 2, HELD)
        self.range_of(offer(1, 5), 2, 0, MILLION, HELD)
        self.not_refused(offer(1, 0), HELD)
        self.not_refused(offer(2, MILLION), HELD)

    def test_no_pile_is_there_at_the_beginning(self):
        for call in (put(1, 1), take(1, 1), move(1, 2, 1), move(1, 1, 1), told(1), lots(1), offer(1, 1)):
            self.refused(-1, call, [])

    def test_a_pile_is_there_once_it_has_come(self):
        self.assertEqual(ask(told(1), pile(0), told(1), told(2))[0::3], [[-1], [-1]])
        self.assertEqual(ask(pile(0), pile(1), told(2), told(3))[2:], [[0, 1, MILLIARD, 0, 0, 1, 0, 1, 0, 1, 0], [-1]])

    def test_all_numbers_outside_at_once(self):
        for number in (-WIDEST, WIDEST, -1):
            for call in (pile(0), put(1, 1), take(1, 1), move(1, 2, 1), told(1), lots(1), source(), offer(1)):
                self.refused(-1, call[:1] + [number] * (len(call) - 1), HELD)
        self.not_refused(sums(), HELD)
