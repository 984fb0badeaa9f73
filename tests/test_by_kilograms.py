"""Random lines, answered a second time by a slow model that keeps every kilogram by itself."""

import random
from fractions import Fraction
from itertools import groupby

from tests.line import LineTest, ask, last, lots, move, pile, put, sources, sums, take, told, want


def in_numbers(fractions):
    row = []
    for fraction in fractions:
        row.extend([fraction.numerator, fraction.denominator])
    return row


def metal(kilograms):
    return [sum((one[1][kind] for one in kilograms), Fraction(0)) for kind in range(3)]


def groups(kilograms):
    """The lots: neighbours that bear one name."""
    return [list(group) for name, group in groupby(kilograms, key=lambda one: one[0])]


class ByKilograms:
    def __init__(self):
        self.piles = []
        self.offered = []
        self.wanted = [0, 0, 10 ** 6, 0, 10 ** 6, 0, 10 ** 6]
        self.names = 0
        self.came = []
        self.went = []

    def named(self, grades):
        self.names += 1
        return [(self.names, grade) for grade in grades]

    def lay(self, where, grades):
        held = where["held"]
        if where["sort"] == 0:
            where["held"] = self.named(grades) + held
        elif where["sort"] == 1:
            where["held"] = held + self.named(grades)
        else:
            grades = [one[1] for one in held] + grades
            mean = tuple(sum(grade[kind] for grade in grades) / len(grades) for kind in range(3))
            where["held"] = self.named([mean] * len(grades))

    def there(self, *numbers):
        return all(1 <= number <= len(self.piles) for number in numbers)

    def pile(self, sort, most):
        if sort not in (0, 1, 2) or not 1 <= most <= 10 ** 9:
            return [-1]
        if len(self.piles) >= 6:
            return [-3]
        self.piles.append({"sort": sort, "most": most, "held": []})
        return [0, len(self.piles)]

    def put(self, number, kilograms, *grams):
        if not self.there(number) or not 1 <= kilograms <= 10 ** 6 or not all(0 <= g <= 10 ** 9 for g in grams):
            return [-1]
        where = self.piles[number - 1]
        if len(where["held"]) + kilograms > where["most"]:
            return [-2]
        if where["sort"] < 2 and len(groups(where["held"])) >= 30:
            return [-3]
        grades = [tuple(Fraction(g, kilograms) for g in grams)] * kilograms
        self.came.extend(self.named(grades))
        self.lay(where, grades)
        return [0, len(where["held"])]

    def take(self, number, kilograms):
        if not self.there(number) or not 1 <= kilograms <= 10 ** 9:
            return [-1]
        where = self.piles[number - 1]
        if len(where["held"]) < kilograms:
            return [-4]
        gone = where["held"][:kilograms]
        where["held"] = where["held"][kilograms:]
        self.went.extend(gone)
        sizes = [len(group) for group in groups(gone)]
        return [0, len(where["held"])] + in_numbers(metal(gone)) + [len(sizes)] + sizes

    def move(self, number, other, kilograms):
        if not self.there(number, other) or number == other or not 1 <= kilograms <= 10 ** 9:
            return [-1]
        here = self.piles[number - 1]
        where = self.piles[other - 1]
        if len(here["held"]) < kilograms:
            return [-4]
        if len(where["held"]) + kilograms > where["most"]:
            return [-2]
        gone = here["held"][:kilograms]
        if where["sort"] < 2 and len(groups(where["held"])) + len(groups(gone)) > 30:
            return [-3]
        here["held"] = here["held"][kilograms:]
        for group in groups(gone):
            self.lay(where, [one[1] for one in group])
        return [0, len(here["held"]), len(where["held"])] + in_numbers(metal(gone))

    def told(self, number):
        if not self.there(number):
            return [-1]
        where = self.piles[number - 1]
        held = where["held"]
        return [0, where["sort"], where["most"], len(held)] + in_numbers(metal(held)) + [len(groups(held))]

    def lots(self, number):
        if not self.there(number):
            return [-1]
        row = []
        held = groups(self.piles[number - 1]["held"])
        for group in held:
            row.extend([len(group)] + in_numbers(group[0][1]))
        return [0, len(held)] + row

    def sums(self):
        row = [0]
        for kilograms in (self.came, [one for where in self.piles for one in where["held"]], self.went):
            row.extend([len(kilograms)] + in_numbers(metal(kilograms)))
        return row

    def source(self, *numbers):
        if not all(0 <= number <= 10 ** 6 for number in numbers):
            return [-1]
        return self.one_more_source(numbers[0], numbers[1], [Fraction(number, 1000) for number in numbers[2:]])

    def offer(self, number, cost):
        if not self.there(number) or not 0 <= cost <= 10 ** 6:
            return [-1]
        held = self.piles[number - 1]["held"]
        if not held:
            return [-4]
        return self.one_more_source(cost, len(held), [grams / len(held) for grams in metal(held)])

    def one_more_source(self, cost, kilograms, grades):
        if len(self.offered) >= 6:
            return [-3]
        self.offered.append([cost, kilograms] + in_numbers(grades))
        return [0, len(self.offered)]

    def clear(self):
        self.offered = []
        return [0]

    def want(self, amount, count, *bounds):
        if count != 6 or not all(0 <= number <= 10 ** 6 for number in (amount, *bounds)):
            return [-1]
        self.wanted = [amount, *bounds]
        return [0]

    def sources(self):
        row = [0, *self.wanted, len(self.offered)]
        for one in self.offered:
            row.extend(one)
        return row

    def answer(self, call):
        named = dict(enumerate((
            "pile", "put", "take", "move", "told", "lots", "sums", "source", "offer", "clear", "want",
        )))
        named[17] = "sources"
        return getattr(self, named[call[0]])(*call[1:])


def random_call(dice, kinds):
    some_pile = dice.choice([1, 1, 2, 2, 3, 3, 4, 5, 6])
    kilograms = dice.choice([1, 1, 2, 3, 5, 8, 13, 21])
    if dice.random() < 0.04:
        some_pile = dice.choice([-1, 0, 7])
    if dice.random() < 0.04:
        kilograms = dice.choice([-1, 0, 10 ** 9 + 1])
    kind = dice.choice(kinds)
    if kind == 0:
        return pile(dice.choice([0, 1, 2, 0, 1, 2, 3]), dice.choice([9, 40, 70, 200]))
    if kind == 1:
        return put(some_pile, kilograms, dice.randrange(9), dice.randrange(30), dice.choice([0, 7, -1, 12, 5, 4, 3]))
    if kind == 2:
        return take(some_pile, kilograms)
    if kind == 3:
        return move(some_pile, dice.randrange(1, 7), kilograms)
    if kind in (4, 5):
        return [kind, some_pile]
    if kind == 7:
        return [7] + [dice.choice([-1, 0, 5, 10 ** 6]) if dice.random() < 0.2 else 3 for k in range(5)]
    if kind == 8:
        return [8, some_pile, dice.choice([0, 5, 10 ** 6, 10 ** 6 + 1])]
    if kind == 10:
        call = want(dice.randrange(50), *[(dice.randrange(9), dice.randrange(9)) for k in range(3)])
        if dice.random() < 0.2:
            call[dice.choice([1, 3, 4, 8])] = dice.choice([-1, 10 ** 6 + 1, 10 ** 6])
        return call
    return [kind]


class ByKilogramsTest(LineTest):
    def alike(self, calls):
        model = ByKilograms()
        for call, row in zip(calls, ask(*calls), strict=True):
            self.assertEqual(row, model.answer(call), (call, calls))

    def test_random_lines(self):
        dice = random.Random(20261116)
        for k in range(150):
            first = [pile(dice.randrange(3), dice.choice([30, 60, 200])) for n in range(dice.randrange(1, 6))]
            kinds = [0] + [1] * 6 + [2] * 2 + [3] * 6 + [4, 5, 5, 6, 7, 8, 8, 10, 17, 17] + [9] * (k % 2)
            self.alike(first + [random_call(dice, kinds) for n in range(114)] + [sources()])

    def test_random_lines_with_many_lots(self):
        dice = random.Random(30)
        for k in range(60):
            first = [pile(dice.randrange(2)), pile(dice.randrange(2)), pile(2)]
            piled = [put(dice.choice([1, 1, 2]), dice.randrange(1, 4), dice.randrange(5), 1, 2) for n in range(60)]
            rest = [move(dice.randrange(1, 4), dice.randrange(1, 4), dice.randrange(1, 15)) for n in range(30)]
            self.alike(first + piled + rest + [lots(1), lots(2), lots(3), told(1), told(2), told(3), sums()])


class NothingIsLostTest(LineTest):
    def test_put_is_what_is_there_and_what_was_taken(self):
        dice = random.Random(8)
        for k in range(30):
            calls = [pile(n % 3) for n in range(6)]
            calls += [put(n, *[dice.randrange(1, 10 ** 6) for m in range(4)]) for n in range(1, 7)]
            for n in range(50):
                here, other = dice.sample(range(1, 7), 2)
                calls.append(move(here, other, dice.randrange(1, 10 ** 6)))
                calls.append(take(here, dice.randrange(1, 10 ** 4)))
            answer = last(*calls, sums())
            self.assertEqual(len(answer), 22)
            rows = [answer[1:8], answer[8:15], answer[15:22]]
            self.assertEqual(rows[0][0], rows[1][0] + rows[2][0])
            for place in (1, 3, 5):
                whole, there, gone = [Fraction(row[place], row[place + 1]) for row in rows]
                self.assertEqual(whole, there + gone)
                self.assertEqual(whole, sum(call[3 + place // 2] for call in calls if call[0] == 1))

    def test_every_fraction_is_in_lowest_terms(self):
        calls = [pile(2), pile(2), put(1, 999983, 1, 999999937, 6), put(2, 999979, 2, 30, 0)]
        for n in range(50):
            calls.extend([move(1, 2, 7919 + n), move(2, 1, 7907 + 3 * n)])
        rows = ask(*calls, sums(), lots(1), lots(2), told(1), told(2))
        self.assertEqual({row[0] for row in rows}, {0})
        fractions = [rows[-5][k:k + 2] for start in (2, 9, 16) for k in range(start, start + 6, 2)]
        fractions += [row[k:k + 2] for row in rows[-4:-2] for k in (3, 5, 7)]
        fractions += [row[k:k + 2] for row in rows[-2:] for k in (4, 6, 8)]
        for above, below in fractions:
            self.assertEqual([above, below], in_numbers([Fraction(above, below)]))
        self.assertGreater(max(below for above, below in fractions), 10 ** 200)
