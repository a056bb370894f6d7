"""What values have to be: names, rows, standings, scripts, sizes, answers; and the errors where they are not."""

from chargeturns.errors import BadRow, BadScript, BadSeen, BadSizes, BadStanding, Empty, NoJoining, NoPart, NoSource
from chargeturns.ratios import is_above_nought, is_fraction

GROUND = "gnd"
LETTERS = "abcdefghijklmnopqrstuvwxyz"
LONGEST_NAME = 6
LONGEST_SCRIPT = 40


def is_name(value):
    """Whether the value is a name; the ground's is none."""
    if not isinstance(value, str) or value == GROUND:
        return False
    return 1 <= len(value) <= LONGEST_NAME and all([sign in LETTERS for sign in value])


def names_of(told):
    """The names of sources, parts or joinings, told as tuples that begin with them."""
    return [entry[0] for entry in told]


def is_row(circuit, value):
    """Whether the value is a row of the circuit: a fraction for each part."""
    if not isinstance(value, tuple) or len(value) != len(circuit.parts):
        return False
    return all([is_fraction(number) for number in value])


def is_script(circuit, value):
    """Whether the value is a script: a tuple, not too long, of names of joinings."""
    if not isinstance(value, tuple) or len(value) > LONGEST_SCRIPT:
        return False
    names = names_of(circuit.joinings)
    return all([part in names for part in value])


def is_sizes(circuit, value):
    """Whether the value is a table of sizes: a fraction above 0 for each part."""
    return is_row(circuit, value) and all([is_above_nought(number) for number in value])


def is_answer(value, word, many):
    """Whether the value is a tuple of so many that begins with the word."""
    return isinstance(value, tuple) and len(value) == many and value[0] == word


def check_row(circuit, value):
    """Raises BadRow unless the value is a row."""
    if not is_row(circuit, value):
        raise BadRow(value)


def check_standing(circuit, value):
    """Raises BadStanding unless the value is a standing."""
    if not is_row(circuit, value):
        raise BadStanding(value)


def check_joining(circuit, value):
    """Raises NoJoining unless the value is the name of a joining."""
    if value not in names_of(circuit.joinings):
        raise NoJoining(value)


def check_part(circuit, value):
    """Raises NoPart unless the value is the name of a part."""
    if value not in names_of(circuit.parts):
        raise NoPart(value)


def check_source(circuit, value):
    """Raises NoSource unless the value is the name of a source."""
    if value not in names_of(circuit.sources):
        raise NoSource(value)


def check_script(circuit, value):
    """Raises BadScript unless the value is a script: with the number of its first wrong part, or with None."""
    if not isinstance(value, tuple) or len(value) > LONGEST_SCRIPT:
        raise BadScript(None)
    names = names_of(circuit.joinings)
    for number, part in enumerate(value):
        if part not in names:
            raise BadScript(number)


def check_round(circuit, value):
    """Raises BadScript unless the value is a script, Empty if it has no joinings."""
    check_script(circuit, value)
    if not value:
        raise Empty(None)


def check_seen(circuit, value):
    """Raises BadSeen unless the value is a tuple of unlike names of parts, as the parts stand."""
    if not isinstance(value, tuple):
        raise BadSeen(value)
    if list(value) != [name for name in names_of(circuit.parts) if name in value]:
        raise BadSeen(value)


def check_sizes(circuit, value):
    """Raises BadSizes unless the value is a table of sizes."""
    if not is_sizes(circuit, value):
        raise BadSizes(value)
