"""move: between piles of every two sorts, and how the lots stand then."""

from tests.line import HEAVIEST, LineTest, ask, lots, lots_told, move, pile, put, sums, told

# What the first pile holds, in the order in which its lots are put on; all that is mixed of it is 12 kg.
FIVE = (5, 2, 1, 1, 5, 0, 1)
THREE = (3, 4, 3, 2, 1, 0, 1)
FOUR = (4, 1, 2, 2, 1, 9, 4)
MIX = (12, 4, 3, 5, 4, 3, 4)
# What the second one holds: two lots alike, so that mixed or not their grades are the same.
OLD = (2, 1, 1, 1, 1, 1, 1)


def part(lot, kilograms):
    return (kilograms,) + lot[1:]


def two_piles(sort, other):
    return [
        pile(sort), pile(other),
        put(1, 5, 10, 1, 0), put(1, 3, 4, 6, 0), put(1, 4, 2, 8, 9),
        put(2, 2, 2, 2, 2), put(2, 2, 2, 2, 2),
    ]


def on_other(other, coming):
    """How the second pile's lots stand when these came, if it is of sort 0 or 1."""
    if other == 0:
        return coming[::-1] + [OLD, OLD]
    return [OLD, OLD] + coming


class MoveTest(LineTest):
    def moved(self, sort, other, kilograms, metal, left, coming):
        rows = ask(*two_piles(sort, other), move(1, 2, kilograms), lots(1), lots(2), told(2))
        self.assertEqual(rows[-4], [0, 12 - kilograms, 4 + kilograms] + metal)
        self.assertEqual(lots_told(rows[-3]), left)
        self.assertEqual(lots_told(rows[-2]), on_other(other, coming))
        self.assertEqual(rows[-1][1:4], [other, HEAVIEST, 4 + kilograms])
        self.assertEqual(rows[-1][-1], 2 + len(coming))

    def test_less_than_a_lot(self):
        for other in (0, 1):
            self.moved(0, other, 1, [1, 2, 2, 1, 9, 4], [part(FOUR, 3), THREE, FIVE], [part(FOUR, 1)])
            self.moved(1, other, 1, [2, 1, 1, 5, 0, 1], [part(FIVE, 4), THREE, FOUR], [part(FIVE, 1)])
            self.moved(2, other, 1, [4, 3, 5, 4, 3, 4], [part(MIX, 11)], [part(MIX, 1)])

    def test_just_a_lot(self):
        for other in (0, 1):
            self.moved(0, other, 4, [2, 1, 8, 1, 9, 1], [THREE, FIVE], [FOUR])
            self.moved(1, other, 5, [10, 1, 1, 1, 0, 1], [THREE, FOUR], [FIVE])

    def test_several_lots_and_a_part(self):
        for other in (0, 1):
            self.moved(0, other, 9, [10, 1, 72, 5, 9, 1], [part(FIVE, 3)], [FOUR, THREE, part(FIVE, 2)])
            self.moved(1, other, 9, [29, 2, 9, 1, 9, 4], [part(FOUR, 3)], [FIVE, THREE, part(FOUR, 1)])

    def test_all_of_it(self):
        for other in (0, 1):
            self.moved(0, other, 12, [16, 1, 15, 1, 9, 1], [], [FOUR, THREE, FIVE])
            self.moved(1, other, 12, [16, 1, 15, 1, 9, 1], [], [FIVE, THREE, FOUR])
            self.moved(2, other, 12, [16, 1, 15, 1, 9, 1], [], [MIX])

    def mixed(self, sort, kilograms, metal, left, mix):
        rows = ask(*two_piles(sort, 2), move(1, 2, kilograms), lots(1), lots(2))
        self.assertEqual(rows[-3], [0, 12 - kilograms, 4 + kilograms] + metal)
        self.assertEqual(lots_told(rows[-2]), left)
        self.assertEqual(lots_told(rows[-1]), [mix])

    def test_to_a_mixed_pile(self):
        self.mixed(0, 1, [1, 2, 2, 1, 9, 4], [part(FOUR, 3), THREE, FIVE], (5, 9, 10, 6, 5, 5, 4))
        self.mixed(0, 4, [2, 1, 8, 1, 9, 1], [THREE, FIVE], (8, 3, 4, 3, 2, 13, 8))
        self.mixed(0, 9, [10, 1, 72, 5, 9, 1], [part(FIVE, 3)], (13, 14, 13, 92, 65, 1, 1))
        self.mixed(1, 5, [10, 1, 1, 1, 0, 1], [THREE, FOUR], (9, 14, 9, 5, 9, 4, 9))
        self.mixed(1, 9, [29, 2, 9, 1, 9, 4], [part(FOUR, 3)], (13, 37, 26, 1, 1, 25, 52))
        self.mixed(2, 1, [4, 3, 5, 4, 3, 4], [part(MIX, 11)], (5, 16, 15, 21, 20, 19, 20))
        for sort in (0, 1, 2):
            self.mixed(sort, 12, [16, 1, 15, 1, 9, 1], [], (16, 5, 4, 19, 16, 13, 16))

    def test_to_an_empty_pile(self):
        stands = {
            (0, 0): [part(FIVE, 2), THREE, FOUR], (0, 1): [FOUR, THREE, part(FIVE, 2)],
            (1, 0): [part(FOUR, 1), THREE, FIVE], (1, 1): [FIVE, THREE, part(FOUR, 1)],
            (2, 0): [part(MIX, 9)], (2, 1): [part(MIX, 9)], (2, 2): [part(MIX, 9)],
            (0, 2): [(9, 10, 9, 8, 5, 1, 1)], (1, 2): [(9, 29, 18, 1, 1, 1, 4)],
        }
        for sort, other in stands:
            rows = ask(*two_piles(sort, 0)[:5], pile(other), move(1, 3, 9), lots(3), lots(2))
            self.assertEqual(rows[-3][:3], [0, 3, 9])
            self.assertEqual(lots_told(rows[-2]), stands[(sort, other)], (sort, other))
            self.assertEqual(rows[-1], [0, 0])

    def test_to_a_pile_of_a_lower_number(self):
        rows = ask(pile(0), pile(0), put(2, 4, 1, 2, 3), move(2, 1, 1), lots(1), lots(2))
        self.assertEqual(rows[-3], [0, 3, 1, 1, 4, 1, 2, 3, 4])
        self.assertEqual([lots_told(row)[0][0] for row in rows[-2:]], [1, 3])

    def test_there_and_back(self):
        for sort in (0, 1, 2):
            rows = ask(*two_piles(sort, 0)[:5], lots(1), move(1, 2, 12), move(2, 1, 12), lots(1))
            self.assertEqual(lots_told(rows[-1]), lots_told(rows[5])[::-1 if sort == 1 else 1])

    def test_a_part_stays_a_lot_of_its_own(self):
        for other in (0, 1):
            rows = ask(pile(0), pile(other), put(1, 6, 1, 2, 3), move(1, 2, 2), move(1, 2, 2), lots(2))
            self.assertEqual([lot[0] for lot in lots_told(rows[-1])], [2, 2])

    def test_moved_is_neither_put_nor_taken(self):
        for sort in (0, 1, 2):
            for other in (0, 1, 2):
                before = two_piles(sort, other)
                rows = ask(*before, sums(), move(1, 2, 7), sums(), move(2, 1, 11), sums())
                self.assertEqual(rows[-3], rows[-5])
                self.assertEqual(rows[-1], rows[-5])

    def test_one_more_than_all(self):
        for sort in (0, 1, 2):
            for other in (0, 1, 2):
                self.refused(-4, move(1, 2, 13), two_piles(sort, other))
                self.refused(-4, move(1, 2, HEAVIEST), two_piles(sort, other))
                self.refused(-4, move(1, 2, 1), [pile(sort), pile(other), put(2, 5, 1, 1, 1)])
