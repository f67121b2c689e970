"""The simplex method over integers: the greatest gain that amounts from 0 on can have within limits.

Amounts are looked for that are not below 0 and for which no row, its weights times the amounts, exceeds its limit.
No limit is below 0, so one begins with all amounts 0. What is left of each limit counts as an amount, too: that of the
row. At each time as many amounts as there are rows are *inside*, one for each row of a table; all others are 0, one
for each column. A step changes one of each. A table has the rows, the limits as their last items, and the gains, with
the other sign, as its last row. All its items stand for fractions with one denominator, the scale; each item is, but
for the sign, a determinant of numbers that were passed, so the divisions by the scale leave no rest.
"""

# So many steps are made by what an amount brings, all others by its number.
BOLD_STEPS = 200


class Optimum:
    """The greatest gain, amounts with this gain, and prices of the rows that show that there is no greater one.

    All are told as numerators over one denominator, the scale.
    """

    def __init__(self, scale, gain, amounts, prices):
        self.scale = scale
        self.gain = gain
        self.amounts = amounts
        self.prices = prices


def optimum(rows, limits, gains):
    """The `Optimum` for rows of weights, one for each amount; `None` if gains are not bounded."""
    table = [[*row, limit] for row, limit in zip(rows, limits)] + [[-gain for gain in gains] + [0]]
    outer = list(range(len(gains)))
    inner = list(range(len(gains), len(gains) + len(rows)))
    scale = 1
    steps = 0
    column = entering(table[-1], outer, True)
    while column is not None:
        row = leaving(table, inner, column)
        if row is None:
            return None
        pivot = table[row][column]
        table = changed(table, scale, row, column)
        scale = pivot
        inner[row], outer[column] = outer[column], inner[row]
        steps += 1
        column = entering(table[-1], outer, steps < BOLD_STEPS)
    amounts = amounts_of(inner, [line[-1] for line in table[:-1]], len(gains) + len(rows))
    prices = amounts_of(outer, table[-1][:-1], len(gains) + len(rows))
    return Optimum(scale, table[-1][-1], amounts[:len(gains)], prices[len(gains):])


def entering(goal, outer, is_bold):
    """The column of an amount that brings a gain; `None` if there is none.

    Of several it is the one that brings most for each unit, which is mostly the shortest way. But tables could come
    again so; therefore later it is the one with the least number, as in `leaving`: then no table comes again (Bland).
    """
    found = None
    for column, amount in enumerate(outer):
        if goal[column] < 0 and (found is None or is_better(goal, outer, column, found, is_bold)):
            found = column
    return found


def is_better(goal, outer, column, other, is_bold):
    """Whether the amount of a column is to be taken rather than that of another one."""
    if is_bold and goal[column] != goal[other]:
        return goal[column] < goal[other]
    return outer[column] < outer[other]


def leaving(table, inner, column):
    """The row whose amount is the first one to come down to 0 if that of a column grows; `None` if there is none."""
    found = None
    for row, amount in enumerate(inner):
        if table[row][column] > 0:
            if found is None or is_sooner(table[row], amount, table[found], inner[found], column):
                found = row
    return found


def is_sooner(line, amount, other, other_amount, column):
    """Whether the amount of a row comes down to 0 sooner than that of another row, or has the lesser number."""
    mine, others = line[-1] * other[column], other[-1] * line[column]
    return mine < others or (mine == others and amount < other_amount)


def changed(table, scale, row, column):
    """The table with the amount of a column inside in the place of that of a row."""
    made = [combined(line, table[row], column, scale) for line in table]
    made[row] = list(table[row])
    made[row][column] = scale
    return made


def combined(line, pivot, column, scale):
    """Another row of the table, when the amount of the pivot's column is replaced by means of the pivot's row."""
    fresh = [(entry * pivot[column] - line[column] * own) // scale for entry, own in zip(line, pivot)]
    fresh[column] = -line[column]
    return fresh


def amounts_of(places, numbers, many):
    """So many amounts: those that have a place have the number there, all others are 0."""
    found = [0] * many
    for place, number in zip(places, numbers):
        found[place] = number
    return found
