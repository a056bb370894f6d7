"""What a round of a script makes of standings when all sources are 0."""

from chargeturns.circuits import grounded
from chargeturns.rows import corners, difference
from chargeturns.scripts import behind


def turned(circuit, script, row):
    """The round of the row: where the script leads it when all sources are 0."""
    return behind(grounded(circuit), script, row)


def steady_equations(circuit, script, start):
    """Equations that hold for just the voltages that a round leads back to themselves, if it leads noughts to start."""
    many = len(circuit)
    # A round is a straight map: what it makes of each part alone tells what it makes of all else.
    moved = [difference(corner, turned(circuit, script, corner)) for corner in corners(many)]
    return [[row[place] for row in moved] + [start[place]] for place in range(many)]
