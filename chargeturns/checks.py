"""What values have to be: names, rows, standings; and the errors where they are not."""

from chargeturns.errors import BadRow, BadStanding, NoJoining, NoPart, NoSource
from chargeturns.ratios import is_fraction

GROUND = "gnd"
LETTERS = "abcdefghijklmnopqrstuvwxyz"
LONGEST_NAME = 6


def is_name(value):
    """Whether the value is a name; the ground's is none."""
    if not isinstance(value, str) or value == GROUND:
        return False
    return 1 <= len(value) <= LONGEST_NAME and all([sign in LETTERS for sign in value])


def names_of(told):
    """The names of sources, parts or joinings, told as tuples that begin with them."""
    return [entry[0] for entry in told]


def is_row(circuit, value):
    """Whether the value is a row of the circuit: a fraction for each part."""
    if not isinstance(value, tuple) or len(value) != len(circuit.parts):
        return False
    return all([is_fraction(number) for number in value])


def check_row(circuit, value):
    """Raises BadRow unless the value is a row."""
    if not is_row(circuit, value):
        raise BadRow(value)


def check_standing(circuit, value):
    """Raises BadStanding unless the value is a standing."""
    if not is_row(circuit, value):
        raise BadStanding(value)


def check_joining(circuit, value):
    """Raises NoJoining unless the value is the name of a joining."""
    if value not in names_of(circuit.joinings):
        raise NoJoining(value)


def check_part(circuit, value):
    """Raises NoPart unless the value is the name of a part."""
    if value not in names_of(circuit.parts):
        raise NoPart(value)


def check_source(circuit, value):
    """Raises NoSource unless the value is the name of a source."""
    if value not in names_of(circuit.sources):
        raise NoSource(value)
