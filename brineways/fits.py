"""Fits under lines: the one worth most, and prices that show it."""

from brineways.errors import NoPlan
from brineways.fractions import NOUGHT, common, fraction, is_less, summed, times


def multiplied_up(some, others):
    """The sum of fractions, each times the other at its place."""
    return summed([times(one, other) for one, other in zip(some, others)])


def numbers_at(lines, place):
    """The numbers of all lines at a place."""
    return [numbers[place] for numbers, bound in lines]


def is_from_nought(row, many):
    """Whether a row has so many fractions, none below 0."""
    return len(row) == many and not any([is_less(one, NOUGHT) for one in row])


def fit_worth(gains, lines, thing):
    """The worth of a fit, or None where a row is no fit."""
    if not is_from_nought(thing, len(gains)):
        return None
    for numbers, bound in lines:
        if is_less(bound, multiplied_up(numbers, thing)):
            return None
    return multiplied_up(gains, thing)


def prices_bound(gains, lines, thing):
    """The sum of bounds times prices, or None where a row is no prices."""
    if not is_from_nought(thing, len(lines)):
        return None
    for place, gain in enumerate(gains):
        if is_less(multiplied_up(numbers_at(lines, place), thing), gain):
            return None
    return multiplied_up([bound for numbers, bound in lines], thing)


def check_bounded(gains, lines):
    """Refuses a gain above 0 that no line bounds."""
    for place, gain in enumerate(gains):
        if gain != NOUGHT and all([number == NOUGHT for number in numbers_at(lines, place)]):
            raise NoPlan("no line bounds a gain")


def common_bottom(some):
    """The least whole number by which all fractions of a row become whole."""
    bottom = 1
    for a, b in some:
        bottom = bottom // common(bottom, b) * b
    return bottom


def whole_row(some, by):
    """Fractions times a whole number by which they become whole."""
    return [a * (by // b) for a, b in some]


def first_table(gains, lines, scales):
    """The table that the search begins with: (rows, held, free, bottom).

    A row for each line, its bound last, and one for the gains, all of whole
    numbers that stand for themselves by the bottom. Numbered are first the
    places, then what each line leaves of its bound: a row holds one of these,
    and the free ones are nought, one for each column.
    """
    places = len(gains)
    rows = [whole_row((*numbers, bound), by) for (numbers, bound), by in zip(lines, scales)]
    rows.append(whole_row((*gains, NOUGHT), scales[-1]))
    held = [places + at for at in range(len(lines))]
    return (rows, held, list(range(places)), 1)


def entering(table):
    """The column whose free one is worth more than nought, or None."""
    rows, held, free, bottom = table
    better = [at for at in range(len(free)) if rows[-1][at] > 0]
    # Here and in leaving always the least number, so that no table ever comes again.
    return min(better, key=lambda at: free[at]) if better else None


def leaving(table, column):
    """The row whose held one first comes to nought where the free one of a column grows."""
    rows, held, free, bottom = table
    best = None
    for at, row in enumerate(rows[:-1]):
        if row[column] > 0:
            if best is None:
                best = at
            here = row[-1] * rows[best][column]
            there = rows[best][-1] * row[column]
            if here < there or (here == there and held[at] < held[best]):
                best = at
    return best


def cleared(row, chosen, column, bottom):
    """A row without the column's share of it, by the chosen row."""
    pivot = chosen[column]
    share = row[column]
    # What is divided here is always a whole multiple of the bottom.
    out = [(pivot * one - share * other) // bottom for one, other in zip(row, chosen)]
    out[column] = -share
    return out


def exchanged(table, at, column):
    """A table whose row holds what was free in a column, and the other way round."""
    rows, held, free, bottom = table
    chosen = rows[at]
    new = [cleared(row, chosen, column, bottom) for row in rows]
    new[at] = chosen[:column] + [bottom] + chosen[column + 1:]
    new_held = held[:at] + [free[column]] + held[at + 1:]
    new_free = free[:column] + [held[at]] + free[column + 1:]
    return (new, new_held, new_free, chosen[column])


def last_table(gains, lines, scales):
    """The table at which nothing is worth more."""
    table = first_table(gains, lines, scales)
    column = entering(table)
    while column is not None:
        table = exchanged(table, leaving(table, column), column)
        column = entering(table)
    return table


def fit_of(table, places):
    """The fit that a table tells."""
    rows, held, free, bottom = table
    amounts = {name: fraction(row[-1], bottom) for name, row in zip(held, rows)}
    return tuple([amounts.get(place, NOUGHT) for place in range(places)])


def prices_of(table, places, scales):
    """The prices that a last table tells, by the scales of its lines and of the gains."""
    rows, held, free, bottom = table
    worths = {name: -rows[-1][at] for at, name in enumerate(free)}
    by = bottom * scales[-1]
    return tuple([
        fraction(worths.get(places + at, 0) * scale, by) for at, scale in enumerate(scales[:-1])
    ])


def best_fit(gains, lines):
    """The most worth, a fit that has it, and prices that show it."""
    check_bounded(gains, lines)
    scales = [common_bottom((*numbers, bound)) for numbers, bound in lines] + [common_bottom(gains)]
    table = last_table(gains, lines, scales)
    fit = fit_of(table, len(gains))
    return (multiplied_up(gains, fit), fit, prices_of(table, len(gains), scales))
