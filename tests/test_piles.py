"""pile, put, take, told, lots and sums: ordinary lines and the edges."""

from tests.line import HEAVIEST, LineTest, ask, last, lots, lots_told, pile, put, sums, take, told

EMPTY_METAL = [0, 1, 0, 1, 0, 1]


def three_lots(sort):
    """5, 3 and 4 kilograms, put on in this order."""
    return [pile(sort), put(1, 5, 10, 1, 0), put(1, 3, 4, 6, 0), put(1, 4, 2, 8, 9)]


FIVE = (5, 2, 1, 1, 5, 0, 1)
THREE = (3, 4, 3, 2, 1, 0, 1)
FOUR = (4, 1, 2, 2, 1, 9, 4)


class PileTest(LineTest):
    def test_numbers_as_they_come(self):
        self.assertEqual(ask(pile(2, 7), pile(0, 1), pile(1)), [[0, 1], [0, 2], [0, 3]])

    def test_a_new_pile_is_empty(self):
        for sort in (0, 1, 2):
            self.assertEqual(
                ask(pile(sort, 77), told(1), lots(1), sums())[1:],
                [[0, sort, 77, 0] + EMPTY_METAL + [0], [0, 0], [0] + ([0] + EMPTY_METAL) * 3],
            )


class PutTest(LineTest):
    def test_answers_the_kilograms_of_this_pile(self):
        calls = [pile(0), pile(2), put(1, 5), put(2, 7), put(1, 6), put(2, 1)]
        self.assertEqual(ask(*calls)[2:], [[0, 5], [0, 7], [0, 11], [0, 8]])

    def test_grades_are_grams_divided_by_kilograms_in_lowest_terms(self):
        for sort in (0, 1, 2):
            answer = last(pile(sort), put(1, 12, 8, 24, 0), lots(1))
            self.assertEqual(answer, [0, 1, 12, 2, 3, 2, 1, 0, 1])

    def test_widest_numbers(self):
        for sort in (0, 1, 2):
            calls = [pile(sort), put(1, 1000000, 1, 1000000000, 999999), lots(1), told(1)]
            self.assertEqual(ask(*calls)[2:], [
                [0, 1, 1000000, 1, 1000000, 1000, 1, 999999, 1000000],
                [0, sort, HEAVIEST, 1000000, 1, 1, 1000000000, 1, 999999, 1, 1],
            ])

    def test_sort_0_comes_in_front(self):
        self.assertEqual(lots_told(last(*three_lots(0), lots(1))), [FOUR, THREE, FIVE])

    def test_sort_1_comes_behind(self):
        self.assertEqual(lots_told(last(*three_lots(1), lots(1))), [FIVE, THREE, FOUR])

    def test_sort_2_is_mixed(self):
        self.assertEqual(lots_told(last(*three_lots(2), lots(1))), [(12, 4, 3, 5, 4, 3, 4)])

    def test_lots_alike_stay_lots_of_their_own(self):
        for sort in (0, 1):
            answer = last(pile(sort), put(1, 2, 2, 2, 2), put(1, 2, 2, 2, 2), lots(1))
            self.assertEqual(lots_told(answer), [(2, 1, 1, 1, 1, 1, 1)] * 2)


class TakeTest(LineTest):
    def taken(self, sort, kilograms, answer, left):
        rows = ask(*three_lots(sort), take(1, kilograms), lots(1))
        self.assertEqual(rows[-2], answer)
        self.assertEqual(lots_told(rows[-1]), left)

    def test_less_than_a_lot(self):
        self.taken(0, 1, [0, 11, 1, 2, 2, 1, 9, 4, 1, 1], [(3,) + FOUR[1:], THREE, FIVE])
        self.taken(1, 4, [0, 8, 8, 1, 4, 5, 0, 1, 1, 4], [(1,) + FIVE[1:], THREE, FOUR])
        self.taken(2, 1, [0, 11, 4, 3, 5, 4, 3, 4, 1, 1], [(11, 4, 3, 5, 4, 3, 4)])

    def test_just_a_lot(self):
        self.taken(0, 4, [0, 8, 2, 1, 8, 1, 9, 1, 1, 4], [THREE, FIVE])
        self.taken(1, 5, [0, 7, 10, 1, 1, 1, 0, 1, 1, 5], [THREE, FOUR])

    def test_just_several_lots(self):
        self.taken(0, 7, [0, 5, 6, 1, 14, 1, 9, 1, 2, 4, 3], [FIVE])
        self.taken(1, 8, [0, 4, 14, 1, 7, 1, 0, 1, 2, 5, 3], [FOUR])

    def test_a_lot_and_a_part(self):
        self.taken(0, 5, [0, 7, 10, 3, 10, 1, 9, 1, 2, 4, 1], [(2,) + THREE[1:], FIVE])
        self.taken(1, 6, [0, 6, 34, 3, 3, 1, 0, 1, 2, 5, 1], [(2,) + THREE[1:], FOUR])

    def test_several_lots_and_a_part(self):
        self.taken(0, 8, [0, 4, 8, 1, 71, 5, 9, 1, 3, 4, 3, 1], [(4,) + FIVE[1:]])
        self.taken(1, 11, [0, 1, 31, 2, 13, 1, 27, 4, 3, 5, 3, 3], [(1,) + FOUR[1:]])
        self.taken(2, 11, [0, 1, 44, 3, 55, 4, 33, 4, 1, 11], [(1, 4, 3, 5, 4, 3, 4)])

    def test_all_of_it(self):
        self.taken(0, 12, [0, 0, 16, 1, 15, 1, 9, 1, 3, 4, 3, 5], [])
        self.taken(1, 12, [0, 0, 16, 1, 15, 1, 9, 1, 3, 5, 3, 4], [])
        self.taken(2, 12, [0, 0, 16, 1, 15, 1, 9, 1, 1, 12], [])

    def test_one_more_than_all(self):
        for sort in (0, 1, 2):
            self.refused(-4, take(1, 13), three_lots(sort))
            self.refused(-4, take(1, HEAVIEST), three_lots(sort))

    def test_from_an_empty_pile(self):
        for sort in (0, 1, 2):
            self.refused(-4, take(1, 1), [pile(sort)])
            self.refused(-4, take(1, 1), three_lots(sort) + [take(1, 12)])

    def test_a_part_is_taken_on_and_on(self):
        for sort in (0, 1, 2):
            rows = ask(pile(sort), put(1, 3, 1, 2, 3), take(1, 1), take(1, 1), take(1, 1), take(1, 1))
            self.assertEqual(rows[2:], [[0, left, 1, 3, 2, 3, 1, 1, 1, 1] for left in (2, 1, 0)] + [[-4]])

    def test_an_emptied_pile_is_put_on_anew(self):
        for sort in (0, 1, 2):
            rows = ask(*three_lots(sort), take(1, 12), put(1, 2, 2, 4, 6), lots(1))
            self.assertEqual(rows[-2:], [[0, 2], [0, 1, 2, 1, 1, 2, 1, 3, 1]])

    def test_what_is_put_on_a_part(self):
        rows = {0: [FOUR, (2,) + FIVE[1:]], 1: [(2,) + FIVE[1:], FOUR], 2: [(6, 1, 1, 7, 5, 3, 2)]}
        for sort in rows:
            answer = last(pile(sort), put(1, 5, 10, 1, 0), take(1, 3), put(1, 4, 2, 8, 9), lots(1))
            self.assertEqual(lots_told(answer), rows[sort])

    def test_only_this_pile_changes(self):
        rows = ask(pile(0), pile(0), put(1, 4, 1, 1, 1), put(2, 4, 1, 1, 1), take(2, 3), lots(1), lots(2))
        self.assertEqual([lots_told(row)[0][0] for row in rows[-2:]], [4, 1])


class ToldTest(LineTest):
    def test_told(self):
        for sort, lot_count in ((0, 3), (1, 3), (2, 1)):
            answer = last(*three_lots(sort), told(1))
            self.assertEqual(answer, [0, sort, HEAVIEST, 12, 16, 1, 15, 1, 9, 1, lot_count])

    def test_told_with_a_part(self):
        answers = {
            0: [0, 0, HEAVIEST, 9, 29, 2, 9, 1, 9, 4, 3],
            1: [0, 1, HEAVIEST, 9, 10, 1, 72, 5, 9, 1, 3],
            2: [0, 2, HEAVIEST, 9, 12, 1, 45, 4, 27, 4, 1],
        }
        for sort in answers:
            self.assertEqual(last(*three_lots(sort), take(1, 3), told(1)), answers[sort])

    def test_looking_changes_nothing(self):
        for sort in (0, 1, 2):
            rows = ask(*three_lots(sort), told(1), lots(1), sums(), told(1), lots(1), sums())
            self.assertEqual(rows[-3:], rows[-6:-3])


class SumsTest(LineTest):
    def test_at_the_beginning(self):
        self.assertEqual(ask(sums()), [[0] + ([0] + EMPTY_METAL) * 3])

    def test_put_there_and_taken(self):
        rows = ask(*three_lots(0), pile(2), put(2, 6, 1, 1, 1), take(1, 5), take(2, 4), sums())
        put_on = [18, 17, 1, 16, 1, 10, 1]
        there = [9, 13, 1, 16, 3, 1, 3]
        taken = [9, 4, 1, 32, 3, 29, 3]
        self.assertEqual(rows[-1], [0] + put_on + there + taken)

    def test_what_is_refused_is_not_counted(self):
        rows = ask(pile(0, 10), put(1, 4, 3, 2, 1), put(1, 7, 5, 5, 5), take(1, 5), put(1, 0, 1, 1, 1), sums())
        lot = [4, 3, 1, 2, 1, 1, 1]
        self.assertEqual(rows[-1], [0] + lot + lot + [0] + EMPTY_METAL)
