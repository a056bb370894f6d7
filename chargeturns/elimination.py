"""Rows of fractions: plain lists of spaces of them, and unknowns told by equations."""

from math import gcd, lcm

from chargeturns.ratios import ONE, ZERO, minus, ratio


def plain_rows(rows):
    """The plain list of all sums of multiples of the rows, as a tuple of tuples of fractions."""
    # Whole numbers without a shared divisor spare a reduction at each step.
    waiting = [cleared(row) for row in rows]
    width = len(waiting[0]) if waiting else 0
    done = []
    for column in range(width):
        leading = [row for row in waiting if row[column] != 0]
        if leading:
            pivot = leading[0]
            # The pivot itself becomes a row of noughts, which never leads again.
            waiting = [without(row, pivot, column) for row in waiting]
            done = [without(row, pivot, column) for row in done] + [pivot]
    return tuple([_led_by_one(row) for row in done])


def null_rows(rows, many):
    """The plain list of all rows of so many numbers that, times each of these rows, add up to 0."""
    leading = {first_place(row): row for row in plain_rows(rows)}
    return plain_rows([_null_row(leading, place, many) for place in range(many) if place not in leading])


def first_place(row):
    """The place of the first number of a row of fractions that is not 0; some number is not."""
    place = 0
    while row[place] == ZERO:
        place += 1
    return place


def solution(equations, many):
    """Any fractions for so many unknowns with which all equations hold; None if there are none.

    An equation is a row: a number for each unknown, and what these times the unknowns add up to.
    """
    found = [ZERO] * many
    for row in plain_rows(equations):
        place = first_place(row)
        # A row without unknowns asks that 0 be 1.
        if place == many:
            return None
        found[place] = row[-1]
    return found


def cleared(row):
    """The least multiple in whole numbers of a row of fractions."""
    scale = 1
    for number in row:
        scale = lcm(scale, number[1])
    return _least([top * (scale // bottom) for top, bottom in row])


def without(row, pivot, column):
    """A multiple of the row, less one of the pivot, that has 0 in the column."""
    own, its = row[column], pivot[column]
    if own == 0:
        return row
    return _least([number * its - other * own for number, other in zip(row, pivot)])


def _null_row(leading, place, many):
    """The row with 1 at this place and 0 at others that lead no row: its other numbers follow from these rows."""
    found = [ZERO] * many
    found[place] = ONE
    for at, row in leading.items():
        found[at] = minus(ZERO, row[place])
    return found


def _least(row):
    """The row of whole numbers less the divisor that all of them share."""
    shared = 0
    for number in row:
        shared = gcd(shared, number)
    if shared < 2:
        return row
    return [number // shared for number in row]


def _led_by_one(row):
    """The multiple of a row of whole numbers whose first number but 0 is 1, as fractions."""
    first = [number for number in row if number != 0][0]
    return tuple([ratio(number, first) for number in row])
