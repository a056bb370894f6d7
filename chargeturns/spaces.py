"""Spaces of rows that ties alone tell: directions, charges that no free junction holds, kept rows."""

from chargeturns.elimination import null_rows, plain_rows
from chargeturns.network import free_junctions, given_potentials, standing_at, ties_of
from chargeturns.ratios import ONE, ZERO
from chargeturns.rows import charges, corners, inner, noughts


def direction_rows(circuit, joining):
    """The plain list of the directions of the joining."""
    ties, many = ties_of(circuit, joining), len(circuit)
    free = free_junctions(circuit, ties)
    flat = {junction: ZERO for junction in list(given_potentials(circuit)) + free}
    raised = [standing_at(circuit, ties, {**flat, junction: ONE}, noughts(many)) for junction in free]
    untied = [standing_at(circuit, ties, flat, corner) for corner in corners(many)]
    return plain_rows(raised + untied)


def charge_rows(circuit, joining):
    """The plain list of all charges of which nothing comes to a free junction, or to a part that is not tied."""
    # Such charges times a direction add up to its potentials times what comes to the junctions: always to 0.
    return null_rows(direction_rows(circuit, joining), len(circuit))


def kept_by(circuit, joinings):
    """The plain list of all rows that are directions of each of these joinings."""
    rows = [row for joining in joinings for row in charge_rows(circuit, joining)]
    return null_rows(rows, len(circuit))


def sum_equations(circuit, kept, standing):
    """Equations that hold for just the voltages in which these rows have the same sums as in the standing."""
    weighed = [charges(circuit, row) for row in kept]
    return [row + (inner(row, standing),) for row in weighed]
