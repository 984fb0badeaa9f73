"""Blends by the words alone: every corner is tried, with Python's own fractions; nothing is drawn from the package.

A list of sources is a list of (cost, kilograms, three grades); what is wanted is (amount, leasts, mosts).
"""

from fractions import Fraction
from itertools import combinations, product


def solved(rows, right):
    """The one answer of as many equations as unknowns, or None if there is none or more than one."""
    table = [[Fraction(number) for number in row] + [Fraction(one)] for row, one in zip(rows, right)]
    count = len(table)
    for place in range(count):
        pivot = next((k for k in range(place, count) if table[k][place] != 0), None)
        if pivot is None:
            return None
        table[place], table[pivot] = table[pivot], table[place]
        table[place] = [number / table[place][place] for number in table[place]]
        for k in range(count):
            if k != place and table[k][place] != 0:
                share = table[k][place]
                table[k] = [mine - share * other for mine, other in zip(table[k], table[place])]
    return [row[-1] for row in table]


def metal(sources, amounts, kind):
    return sum((amount * source[2][kind] for source, amount in zip(sources, amounts)), Fraction(0))


def cost(sources, amounts):
    return sum((amount * source[0] for source, amount in zip(sources, amounts)), Fraction(0))


def fault(sources, wanted, amounts):
    amount, leasts, mosts = wanted
    for number, taken in enumerate(amounts, start=1):
        if taken < 0:
            return (1, number)
    for number, taken in enumerate(amounts, start=1):
        if taken > sources[number - 1][1]:
            return (2, number)
    if sum(amounts) != amount:
        return (3, 1)
    for kind in (1, 2, 3):
        if metal(sources, amounts, kind - 1) * 1000 < sum(amounts) * leasts[kind - 1]:
            return (4, kind)
    for kind in (1, 2, 3):
        if metal(sources, amounts, kind - 1) * 1000 > sum(amounts) * mosts[kind - 1]:
            return (5, kind)
    return (0, 0)


def at_corners(sources, fewest, equations):
    """All amounts where some sources stand at an end and the rest is told by as many of the equations.

    An equation is a number for each source and what they come to; the first few are always among those chosen.
    """
    count = len(sources)
    always, others = equations[:fewest], equations[fewest:]
    for free_count in range(count + 1):
        picks = [()]
        if free_count > 0:
            picks = combinations(others, free_count - fewest) if free_count >= fewest else []
        chosen = [list(always) + list(pick) if free_count > 0 else [] for pick in picks]
        for free in combinations(range(count), free_count):
            bound = [k for k in range(count) if k not in free]
            for ends in product(*[sorted({0, sources[k][1]}) for k in bound]):
                amounts = [Fraction(0)] * count
                for k, end in zip(bound, ends):
                    amounts[k] = Fraction(end)
                for pick in chosen:
                    right = [sum_of - sum(row[k] * amounts[k] for k in bound) for row, sum_of in pick]
                    found = solved([[row[k] for k in free] for row, sum_of in pick], right)
                    if found is not None:
                        result = list(amounts)
                        for k, number in zip(free, found):
                            result[k] = number
                        yield result


def corners(sources, wanted):
    """Every corner of the blends."""
    amount, leasts, mosts = wanted
    equations = [([1] * len(sources), amount)]
    for kind in range(3):
        for bound in sorted({leasts[kind], mosts[kind]}):
            equations.append(([1000 * source[2][kind] for source in sources], amount * bound))
    return [one for one in at_corners(sources, 1, equations) if fault(sources, wanted, one) == (0, 0)]


def cheapest(found, sources):
    """The cheapest of the corners as (cost, amounts), or None."""
    return min(((cost(sources, amounts), amounts) for amounts in found), default=None)


def ends_of(found, sources, kind):
    """The least and the most metal, or None."""
    grams = [metal(sources, amounts, kind - 1) for amounts in found]
    return (min(grams), max(grams)) if grams else None


def greatest(sources, leasts, mosts):
    equations = []
    for kind in range(3):
        for bound in sorted({leasts[kind], mosts[kind]}):
            equations.append(([1000 * source[2][kind] - bound for source in sources], 0))
    found = at_corners(sources, 0, equations)
    return max(sum(one) for one in found if fault(sources, (sum(one), leasts, mosts), one) == (0, 0))


def fair(prices):
    return all(price >= 0 for price in prices[1:])


def worth(sources, wanted, prices, place):
    amount, leasts, mosts = wanted
    result = prices[0]
    for kind in range(3):
        grams = 1000 * sources[place][2][kind]
        result += prices[1 + kind] * (grams - leasts[kind]) + prices[4 + kind] * (mosts[kind] - grams)
    return result - prices[7 + place]


def all_worth(sources, wanted, prices):
    return prices[0] * wanted[0] - sum(price * source[1] for price, source in zip(prices[7:], sources))


def proves(sources, wanted, amounts, prices):
    return (
        fault(sources, wanted, amounts) == (0, 0) and fair(prices)
        and all(worth(sources, wanted, prices, k) <= source[0] for k, source in enumerate(sources))
        and all_worth(sources, wanted, prices) == cost(sources, amounts)
    )


def proves_none(sources, wanted, prices):
    return (
        fair(prices) and all(worth(sources, wanted, prices, k) <= 0 for k in range(len(sources)))
        and all_worth(sources, wanted, prices) > 0
    )


def price_corners(sources, wanted, limits, worth_in_all=None):
    """Prices, most of them 0, by which chosen sources are worth just their limits.

    If what all is worth is told, that is one more equation.
    """
    count = 7 + len(sources)
    units = [[Fraction(int(k == place)) for k in range(count)] for place in range(count)]
    rows = [[worth(sources, wanted, unit, k) for unit in units] for k in range(len(sources))]
    last = [all_worth(sources, wanted, unit) for unit in units]
    for chosen_count in range(len(sources) + 1):
        for chosen in combinations(range(len(sources)), chosen_count):
            equations = [(rows[k], limits[k]) for k in chosen]
            if worth_in_all is not None:
                equations.append((last, worth_in_all))
            for places in combinations(range(count), len(equations)):
                found = solved([[row[k] for k in places] for row, right in equations], [one[1] for one in equations])
                if found is not None:
                    prices = [Fraction(0)] * count
                    for k, price in zip(places, found):
                        prices[k] = price
                    yield prices


def prices_that_prove(sources, wanted, amounts):
    limits = [source[0] for source in sources]
    found = (one for one in price_corners(sources, wanted, limits) if proves(sources, wanted, amounts, one))
    return next(found, None)


def prices_that_prove_none(sources, wanted):
    found = price_corners(sources, wanted, [0] * len(sources), 1)
    return next((one for one in found if proves_none(sources, wanted, one)), None)
