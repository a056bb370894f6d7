"""Rows of fractions, one for each part: what is made of them number by number."""

from chargeturns.ratios import ONE, ZERO, minus, times, total


def noughts(many):
    """The row of so many noughts."""
    return (ZERO,) * many


def corners(many):
    """For each of so many places the row that has 1 there, and 0 at all others."""
    return [noughts(at) + (ONE,) + noughts(many - at - 1) for at in range(many)]


def difference(row, other):
    """The first row less the other."""
    return tuple([minus(number, less) for number, less in zip(row, other)])


def inner(row, other):
    """The numbers of the one times those of the other, place by place, added up."""
    return total([times(number, factor) for number, factor in zip(row, other)])


def charges(circuit, row):
    """For each part its size times its number."""
    return tuple([times(size, number) for (_, size), number in zip(circuit.parts, row)])


def put_together(factors, rows):
    """The rows, each times its factor, an integer, added up; there is one row at least."""
    numbers = [[times((factor, 1), number) for number in row] for factor, row in zip(factors, rows)]
    return tuple([total([told[place] for told in numbers]) for place in range(len(rows[0]))])
