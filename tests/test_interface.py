"""The list that is handed in and the list that is given back."""

from pilesblends.plant import answers
from tests.line import (
    LineTest, as_list, blend, check, clear, lots, metal_range, most, move, never, offer, pile, proof, put, source,
    sources, sums, take, taken_apart, told, want,
)

LONG = [
    pile(0), pile(1, 50), pile(2), put(1, 7, 3, 5, 11), put(1, 9, 1, 2, 3), put(2, 3, 9, 9, 9), move(1, 3, 12),
    move(3, 2, 5), take(2, 4), told(1), lots(2), lots(3), sums(), source(1, 2, 3, 4, 5), offer(3, 7), take(1, 500),
    move(1, 1, 1), put(9, 1), offer(6), pile(3), want(3, (0, 5), (0, 1000), (0, 2000)), blend(), most(),
    metal_range(1), metal_range(2), metal_range(3), metal_range(4), check(1, 2), check(-1, (7, 3)), check(1), sources(),
    proof([1, 2], [1] * 9), proof([1, 2], [1] * 8), never([(2, 4)] * 9), never([]), want(-1), [10, 5, 1, 7],
    want(900), blend(), metal_range(2), never([1, 0, 0, 0, 0, 0, 0, 1, 1]), clear(), blend(), most(), check(),
    sources(),
]


class InterfaceTest(LineTest):
    def test_counts_stand_before_each_answer(self):
        calls = [0, 0, 100, 1, 1, 6, 4, 3, 0, 2, 1, 7, 5, 1, 2, 1, 4]
        given = [2, 0, 1, 2, 0, 6, 1, -4, 9, 0, 1, 6, 2, 3, 1, 2, 0, 1, 10, 0, 2, 8, 3, 2, 1, 0, 1, 1, 4]
        self.assertEqual(answers(calls), given)

    def test_one_call(self):
        self.assertEqual(answers([0, 1, 5]), [2, 0, 1])
        self.assertEqual(answers([5, 1]), [1, -1])

    def test_counts_stand_before_each_answer_of_blends(self):
        calls = [7, 5, 100, 2000, 0, 0, 7, 3, 100, 1000, 0, 0, 10, 50, 6, 1500, 3000, 0, 1000000, 0, 1000000]
        calls += [11, 12, 13, 1, 14, 4, 25, 1, 50, 2, 14, 2, 1, 1, 15, 4, 25, 1, 25, 1, 18]
        calls += [4, 1, 1, 500, 0, 1, 0, 1, 0, 1, 0, 1, 0, 1, 0, 1, 0, 1]
        calls += [16, 18] + [0, 1] * 9 + [17, 9, 11, 12, 13, 3, 14, 0, 10, 0, 6, 0, 0, 0, 0, 0, 0, 11]
        given = [2, 0, 1, 2, 0, 2, 1, 0]
        given += [8, 0, 1, 200, 1, 25, 1, 25, 1, 3, 0, 200, 1, 6, 0, 1, 75, 1, 100, 1]
        given += [5, 0, 0, 0, 200, 1, 1, -1, 2, 0, 1]
        given += [2, 0, 0, 25, 0, 50, 1500, 3000, 0, 1000000, 0, 1000000, 2, 5, 100, 2, 1, 0, 1, 0, 1, 3, 100, 1, 1, 0]
        given += [1, 0, 1, 1, 0, 2, 0, 0, 3, 0, 0, 1, 2, 0, 0, 5, 0, 3, 1, 0, 1, 1, 0, 4, 0, 1, 0, 1]
        self.assertEqual(answers(calls), given)

    def test_a_call_has_its_numbers_though_it_is_refused(self):
        calls = [0, 3, 6, 1, 0, 6, 6, 6, 6, 2, 6, 6, 3, 6, 6, 6, 4, 6, 5, 6, 7, -1, 6, 6, 6, 6, 8, 6, 6, 0, 0, 6]
        self.assertEqual(answers(calls), [1, -1] * 8 + [2, 0, 1])

    def test_what_is_handed_in_is_not_changed(self):
        calls = as_list(LONG)
        copy = list(calls)
        answers(calls)
        self.assertEqual(calls, copy)

    def test_never_changed_for_a_while_either(self):
        class Watched(list):
            def refuse(self, *rest):
                raise AssertionError("changed")

            append = extend = insert = pop = remove = clear = sort = reverse = refuse
            __setitem__ = __delitem__ = __iadd__ = __imul__ = refuse

        self.assertEqual(answers(Watched(as_list(LONG))), answers(as_list(LONG)))

    def test_asked_twice_it_answers_alike(self):
        calls = as_list(LONG)
        first = answers(calls)
        answers([0, 2, 9, 1, 1, 9, 9, 9, 9, 7, 1, 1, 1, 1, 1])
        self.assertEqual(answers(calls), first)
        self.assertEqual(answers(calls), first)

    def test_what_is_given_back_is_ones_own(self):
        calls = as_list(LONG)
        first = answers(calls)
        copy = list(first)
        first.clear()
        self.assertEqual(answers(calls), copy)

    def test_plain_lists_of_plain_whole_numbers(self):
        given = answers(as_list(LONG))
        self.assertIs(type(given), list)
        self.assertEqual({type(number) for number in given}, {int})

    def test_a_refusal_is_one_number_alone(self):
        for row in taken_apart(answers(as_list(LONG))):
            self.assertTrue(row[0] == 0 or len(row) == 1 and row[0] in (-1, -2, -3, -4), row)

    def test_120_calls(self):
        rows = taken_apart(answers([0, 2, 1000000000] + [1, 1, 1000000, 1, 2, 3] * 118 + [4, 1]))
        self.assertEqual(len(rows), 120)
        self.assertEqual(rows[-1], [0, 2, 1000000000, 118000000, 118, 1, 236, 1, 354, 1, 1])
