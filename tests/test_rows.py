"""Numbers and rows of the calls 9 to 17 that aren't as told, and those that just are."""

from pilesblends.plant import answers
from tests.line import (
    FRACTION_MOST, MILLION, WIDEST, LineTest, ask, blend, check, clear, last, metal_range, most, never, proof, row,
    source, sources, want,
)

SIX = [source(k, 10 * k, k, 2 * k, 3 * k) for k in range(1, 7)]
WANTED = want(9, (1, 2), (3, 4), (5, 6))
ENDS_ABOVE = (-FRACTION_MOST, FRACTION_MOST)
ENDS_BELOW = (1, FRACTION_MOST)


class NumbersTest(LineTest):
    def test_amount(self):
        for amount in (0, 1, MILLION):
            self.assertEqual(ask(want(amount), sources())[1][1], amount)
        for amount in (-1, MILLION + 1, -WIDEST, WIDEST):
            for count in (0, 1, 6):
                self.refused(-1, want(amount), SIX[:count] + [WANTED])

    def test_kind(self):
        for count in (0, 1, 6):
            for kind in (1, 2, 3):
                self.assertNotEqual(last(*SIX[:count], metal_range(kind)), [-1])
            for kind in (0, 4, -1, -WIDEST, WIDEST):
                self.refused(-1, metal_range(kind), SIX[:count] + [WANTED])

    def test_calls_without_numbers_are_never_refused(self):
        for count in (0, 1, 6):
            for call in (clear(), blend(), most(), sources()):
                self.not_refused(call, SIX[:count] + [WANTED])


class BoundsRowTest(LineTest):
    def test_each_length(self):
        for count in (0, 1, 6):
            for length in range(41):
                call = [10, 7] + row([5] * length)
                if length == 6:
                    self.assertEqual(last(*SIX[:count], call), [0])
                else:
                    self.refused(-1, call, SIX[:count] + [WANTED])

    def test_each_number_at_the_ends_of_its_range(self):
        for place in range(6):
            for number in (0, MILLION):
                bounds = [7] * place + [number] + [7] * (5 - place)
                self.assertEqual(ask([10, 3] + row(bounds), sources())[1], [0, 3] + bounds + [0])
            for number in (-1, MILLION + 1, -WIDEST, WIDEST):
                self.refused(-1, [10, 3] + row([7] * place + [number] + [7] * (5 - place)), SIX + [WANTED])

    def test_a_good_row_with_a_wrong_amount_and_a_wrong_row_with_a_good_amount(self):
        self.refused(-1, [10, -1] + row([1] * 6), [WANTED])
        self.refused(-1, [10, 1] + row([1] * 5 + [-1]), [WANTED])
        self.refused(-1, [10, -1] + row([1] * 5), [WANTED])


class FractionRowsTest(LineTest):
    def lengths(self, made, right, before):
        """A row made of so many numbers is refused but where there are just as many as is right."""
        for length in range(41):
            call = made([1] * length)
            if length == right:
                self.not_refused(call, before)
            else:
                self.refused(-1, call, before)

    def ends(self, made, right, before):
        for place in range(right):
            ends = ENDS_BELOW if place % 2 else ENDS_ABOVE
            for number in ends:
                self.not_refused(made([1] * place + [number] + [1] * (right - place - 1)), before)
            for number in (ends[0] - 1, ends[1] + 1, -WIDEST, WIDEST):
                self.refused(-1, made([1] * place + [number] + [1] * (right - place - 1)), before)
        for number in (-1, 0):
            for place in range(1, right, 2):
                self.refused(-1, made([1] * place + [number] + [1] * (right - place - 1)), before)
            for place in range(0, right, 2):
                self.not_refused(made([1] * place + [number] + [1] * (right - place - 1)), before)

    def both(self, made, ahead):
        for count in (0, 1, 2, 6):
            before = SIX[:count] + [WANTED]
            self.lengths(lambda numbers: made(numbers, count), 2 * (ahead + count), before)
        for count in (0, 1, 6):
            before = SIX[:count] + [WANTED]
            self.ends(lambda numbers: made(numbers, count), 2 * (ahead + count), before)

    def test_check(self):
        self.both(lambda numbers, count: [14] + row(numbers), 0)

    def test_amounts_of_proof(self):
        self.both(lambda numbers, count: [15] + row(numbers) + row([1] * (14 + 2 * count)), 0)

    def test_prices_of_proof(self):
        self.both(lambda numbers, count: [15] + row([1] * (2 * count)) + row(numbers), 7)

    def test_prices_of_never(self):
        self.both(lambda numbers, count: [16] + row(numbers), 7)

    def test_both_rows_of_proof(self):
        before = SIX + [WANTED]
        for amounts in ([], [1] * 11, [1] * 13, [1] * 40, [1, 0] * 6, [1] * 26):
            for prices in ([], [1] * 25, [1] * 27, [1] * 40, [FRACTION_MOST + 1] * 26, [1] * 12):
                self.refused(-1, [15] + row(amounts) + row(prices), before)

    def test_as_many_as_there_are_sources_now(self):
        calls = [check(), source(), check(), check(1), clear(), check(1), check()]
        self.assertEqual([answer[0] for answer in ask(*calls)], [0, 0, -1, 0, 0, -1, 0])
        calls = [never([1] * 7), source(), never([1] * 7), never([1] * 8), clear(), never([1] * 8), never([1] * 7)]
        self.assertEqual([answer[0] for answer in ask(*calls)], [0, 0, -1, 0, 0, -1, 0])
        calls = [
            proof([], [1] * 7), source(), proof([], [1] * 7), proof([1], [1] * 8), proof([1], [1] * 7),
            proof([], [1] * 8), clear(), proof([1], [1] * 8), proof([], [1] * 7),
        ]
        self.assertEqual([answer[0] for answer in ask(*calls)], [0, 0, -1, 0, -1, -1, 0, -1, 0])

    def test_fractions_not_in_lowest_terms(self):
        before = [source(6, 10, 5, 5, 5), want(4)]
        self.assertEqual(last(*before, check((8, 2))), [0, 0, 0, 24, 1])
        self.assertEqual(last(*before, check((6, 4))), [0, 3, 1, 9, 1])
        self.assertEqual(last(*before, check((0, FRACTION_MOST))), [0, 3, 1, 0, 1])
        self.assertEqual(last(*before, check((-FRACTION_MOST, FRACTION_MOST))), [0, 1, 1, -6, 1])
        self.assertEqual(last(*before, proof([(40, 10)], [(18, 3)] + [(0, 7)] * 7)), [0, 1])
        self.assertEqual(last(source(6, 3), want(4), never([(5, 5)] + [(0, 9)] * 6 + [(12, 12)])), [0, 1])


class RowsInTheListTest(LineTest):
    def test_the_next_call_stands_behind_the_row_whatever_is_in_it(self):
        for length in range(41):
            for number in (0, 17, -WIDEST, WIDEST):
                bad = [number] * length
                calls = [10, 5, length] + bad + [14, length] + bad + [16, length] + bad + [0, 1, 5]
                given = answers(calls)
                self.assertEqual(given[-3:], [2, 0, 1], calls)
        for length in (0, 1, 13, 40):
            for other in (0, 1, 13, 40):
                calls = [15, length] + [17] * length + [other] + [17] * other + [0, 1, 5]
                self.assertEqual(answers(calls), [1, -1, 2, 0, 1])

    def test_forty_numbers(self):
        calls = [7, 1, 1, 1, 1, 1, 10, 1, 40] + [1] * 40 + [14, 40] + [1] * 40 + [16, 40] + [1] * 40
        calls += [15, 40] + [1] * 40 + [40] + [1] * 40 + [17]
        self.assertEqual(answers(calls), [2, 0, 1] + [1, -1] * 4 + [17] + last(source(1, 1, 1, 1, 1), sources()))
