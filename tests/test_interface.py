"""The list that is handed in and the list that is given back."""

from pilesblends.plant import answers
from tests.line import LineTest, as_list, lots, move, offer, pile, put, source, sums, take, taken_apart, told

LONG = [
    pile(0), pile(1, 50), pile(2), put(1, 7, 3, 5, 11), put(1, 9, 1, 2, 3), put(2, 3, 9, 9, 9), move(1, 3, 12),
    move(3, 2, 5), take(2, 4), told(1), lots(2), lots(3), sums(), source(1, 2, 3, 4, 5), offer(3, 7), take(1, 500),
    move(1, 1, 1), put(9, 1), offer(6), pile(3),
]


class InterfaceTest(LineTest):
    def test_counts_stand_before_each_answer(self):
        calls = [0, 0, 100, 1, 1, 6, 4, 3, 0, 2, 1, 7, 5, 1, 2, 1, 4]
        given = [2, 0, 1, 2, 0, 6, 1, -4, 9, 0, 1, 6, 2, 3, 1, 2, 0, 1, 10, 0, 2, 8, 3, 2, 1, 0, 1, 1, 4]
        self.assertEqual(answers(calls), given)

    def test_one_call(self):
        self.assertEqual(answers([0, 1, 5]), [2, 0, 1])
        self.assertEqual(answers([5, 1]), [1, -1])

    def test_a_call_has_its_numbers_though_it_is_refused(self):
        calls = [0, 3, 6, 1, 0, 6, 6, 6, 6, 2, 6, 6, 3, 6, 6, 6, 4, 6, 5, 6, 7, -1, 6, 6, 6, 6, 8, 6, 6, 0, 0, 6]
        self.assertEqual(answers(calls), [1, -1] * 8 + [2, 0, 1])

    def test_what_is_handed_in_is_not_changed(self):
        calls = as_list(LONG)
        copy = list(calls)
        answers(calls)
        self.assertEqual(calls, copy)

    def test_never_changed_for_a_while_either(self):
        class Watched(list):
            def refuse(self, *rest):
                raise AssertionError("changed")

            append = extend = insert = pop = remove = clear = sort = reverse = refuse
            __setitem__ = __delitem__ = __iadd__ = __imul__ = refuse

        self.assertEqual(answers(Watched(as_list(LONG))), answers(as_list(LONG)))

    def test_asked_twice_it_answers_alike(self):
        calls = as_list(LONG)
        first = answers(calls)
        answers([0, 2, 9, 1, 1, 9, 9, 9, 9, 7, 1, 1, 1, 1, 1])
        self.assertEqual(answers(calls), first)
        self.assertEqual(answers(calls), first)

    def test_what_is_given_back_is_ones_own(self):
        calls = as_list(LONG)
        first = answers(calls)
        copy = list(first)
        first.clear()
        self.assertEqual(answers(calls), copy)

    def test_plain_lists_of_plain_whole_numbers(self):
        given = answers(as_list(LONG))
        self.assertIs(type(given), list)
        self.assertEqual({type(number) for number in given}, {int})

    def test_a_refusal_is_one_number_alone(self):
        for row in taken_apart(answers(as_list(LONG))):
            self.assertTrue(row[0] == 0 or len(row) == 1 and row[0] in (-1, -2, -3, -4), row)

    def test_120_calls(self):
        rows = taken_apart(answers([0, 2, 1000000000] + [1, 1, 1000000, 1, 2, 3] * 118 + [4, 1]))
        self.assertEqual(len(rows), 120)
        self.assertEqual(rows[-1], [0, 2, 1000000000, 118000000, 118, 1, 236, 1, 354, 1, 1])
