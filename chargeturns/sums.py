"""What is kept: directions of joinings, rows whose sums no joining changes."""

from chargeturns.checks import check_joining, check_row, check_standing, is_answer, is_row, names_of
from chargeturns.joinings import joined
from chargeturns.rows import charges, inner, noughts
from chargeturns.spaces import direction_rows, kept_by


def directions(circuit, joining):
    """The plain list of the joining's directions: of the rows that fit it when all sources are 0."""
    check_joining(circuit, joining)
    return direction_rows(circuit, joining)


def kept_rows(circuit):
    """The plain list of all rows that are directions of every joining."""
    return kept_by(circuit, names_of(circuit.joinings))


def sum_of(circuit, row, standing):
    """The sum of the row in the standing: size times number times voltage, over all parts."""
    check_row(circuit, row)
    check_standing(circuit, standing)
    return inner(charges(circuit, row), standing)


def is_kept(circuit, row):
    """Whether the row is kept; if not, a joining and a standing in which it changes the row's sum."""
    check_row(circuit, row)
    for joining in names_of(circuit.joinings):
        # A joining of which the row is no direction changes the sum in one of these two.
        for standing in (noughts(len(circuit)), row):
            if _changes(circuit, row, joining, standing):
                return ("changed", joining, standing)
    return ("kept",)


def shows_is_kept(circuit, row, value):
    """Whether the value is right as what is_kept tells."""
    told = is_kept(circuit, row)
    if told == ("kept",):
        return value == told
    if not is_answer(value, "changed", 3):
        return False
    _, joining, standing = value
    if joining not in names_of(circuit.joinings) or not is_row(circuit, standing):
        return False
    return _changes(circuit, row, joining, standing)


def _changes(circuit, row, joining, standing):
    """Whether the joining changes the sum of the row in the standing."""
    return sum_of(circuit, row, joined(circuit, joining, standing)) != sum_of(circuit, row, standing)
