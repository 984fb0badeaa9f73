"""The cheapest point, in whole numbers from beginning to end.

Asked for are unknowns, each 0 or above. A condition is a row of whole numbers, one alone and then one for each
unknown: the first and all unknowns times theirs are together 0 or above. What they are together is how much room
the condition has.

At a corner as many conditions as there are unknowns have no room (that an unknown is 0 or above is a condition
too). The table tells, at a corner, the cost and the room of every condition by the room of just those: in each row
how much there is at the corner itself, then how much comes with the room of each; all divided by one divisor.

The walk begins where all unknowns are 0. No cost is below 0, so nothing is cheaper, but conditions may be broken. A
step gives a broken condition just what it lacks, by room for the one with which the cost rises least; so no corner
is ever dearer than the point looked for. The unknowns themselves stand behind the cost as further, smaller costs:
of equal costs the least first unknown wins, then the least second one. With these, room always costs something; so
each step is dearer than the one before, no corner comes twice, and the walk ends.
"""

from pilesblends.exact import lowest


def alone(count, place, number):
    """A row of noughts but for this number at this place."""
    row = [0] * count
    row[place] = number
    return row


def first_table(costs, conditions):
    """The cost in the first row, each unknown in a row behind it, then the conditions."""
    count = len(costs)
    unknowns = [[0] + alone(count, place, 1) for place in range(count)]
    return [[0] + costs] + unknowns + conditions


def first_broken(table):
    for row in table[1:]:
        if row[0] < 0:
            return row
    return None


def is_cheaper(cost_rows, broken, one, other):
    """Whether what the broken condition lacks costs less by the room in one column than by that in the other."""
    for row in cost_rows:
        difference = row[one] * broken[other] - row[other] * broken[one]
        if difference != 0:
            return difference < 0
    return False


def cheapest_column(cost_rows, broken):
    """The column whose room mends the broken condition most cheaply, or None if none mends it."""
    best = None
    for column in range(1, len(broken)):
        if broken[column] > 0:
            if best is None or is_cheaper(cost_rows, broken, column, best):
                best = column
    return best


def turned(row, broken, column, divisor):
    """The row of the next corner, where the broken condition has no room and the column's is told by it."""
    share = row[column]
    # All entries are determinants of the conditions' own numbers, so that nothing is left over by the division.
    after = [(mine * broken[column] - share * lacking) // divisor for mine, lacking in zip(row, broken)]
    after[column] = share
    return after


def cheapest(costs, conditions):
    """The unknowns as fractions where they cost least, or None where not all conditions can be met.

    No cost is below 0. Of several points it is the one with the least first unknown, then the least second one, and
    so on.
    """
    count = len(costs)
    table = first_table(costs, conditions)
    divisor = 1
    broken = first_broken(table)
    while broken is not None:
        column = cheapest_column(table[:count + 1], broken)
        if column is None:
            return None
        table = [turned(row, broken, column, divisor) for row in table]
        divisor = broken[column]
        broken = first_broken(table)
    return [lowest(row[0], divisor) for row in table[1:count + 1]]
