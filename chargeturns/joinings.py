"""One joining: where parts stand behind it, what flows, what is lost."""

from chargeturns.checks import check_joining, check_row, check_standing, is_row
from chargeturns.errors import Unfit
from chargeturns.network import free_junctions, given_potentials, settled_potentials, tied_voltages, ties_of
from chargeturns.ratios import ONE, ZERO, is_fraction, minus, times, total


def does_fit(circuit, joining, standing):
    """Whether the standing fits the joining."""
    # Of all standings that fit, one that fits is the nearest to itself.
    return joined(circuit, joining, standing) == standing


def joined(circuit, joining, standing):
    """The standing behind the joining: the nearest one that fits it."""
    check_joining(circuit, joining)
    check_standing(circuit, standing)
    ties = ties_of(circuit, joining)
    return _standing_at(circuit, ties, settled_potentials(circuit, ties, standing), standing)


def flow(circuit, joining, standing):
    """What came to each part, as they stand, when the standing was joined."""
    behind = joined(circuit, joining, standing)
    steps = _difference(behind, standing)
    return tuple([times(size, step) for (_, size), step in zip(circuit.parts, steps)])


def lost(circuit, joining, standing):
    """The square that the joining loses."""
    behind = joined(circuit, joining, standing)
    return square(circuit, _difference(behind, standing))


def square(circuit, row):
    """The sum of size times the square of the number, over all parts."""
    check_row(circuit, row)
    return total([times(size, times(number, number)) for (_, size), number in zip(circuit.parts, row)])


def potentials(circuit, joining, standing):
    """Any potentials of the free junctions with which the standing fits the joining."""
    check_joining(circuit, joining)
    check_standing(circuit, standing)
    ties = ties_of(circuit, joining)
    potential = settled_potentials(circuit, ties, standing)
    if _standing_at(circuit, ties, potential, standing) != standing:
        raise Unfit(standing)
    return tuple([(junction, potential[junction]) for junction in free_junctions(circuit, ties)])


def shows_potentials(circuit, joining, standing, value):
    """Whether the value is right as what potentials tells."""
    if not does_fit(circuit, joining, standing):
        raise Unfit(standing)
    ties = ties_of(circuit, joining)
    free = free_junctions(circuit, ties)
    if not isinstance(value, tuple) or len(value) != len(free):
        return False
    potential = given_potentials(circuit)
    for junction, entry in zip(free, value):
        if not _tells_number(entry, junction):
            return False
        potential[junction] = entry[1]
    return _standing_at(circuit, ties, potential, standing) == standing


def either_way(circuit, first, second):
    """Whether it is the same for all standings which of two joinings comes first."""
    check_joining(circuit, first)
    check_joining(circuit, second)
    # Both ways are straight maps: alike for these standings, they are alike for all.
    for standing in _corners(len(circuit)):
        if not _is_same_either_way(circuit, first, second, standing):
            return ("unlike", standing)
    return ("alike",)


def shows_either_way(circuit, first, second, value):
    """Whether the value is right as what either_way tells."""
    told = either_way(circuit, first, second)
    if told == ("alike",):
        return value == told
    if not isinstance(value, tuple) or len(value) != 2 or value[0] != "unlike":
        return False
    return is_row(circuit, value[1]) and not _is_same_either_way(circuit, first, second, value[1])


def _standing_at(circuit, ties, potential, standing):
    """The standing with tied parts' voltages by the potentials, and all others as they are."""
    voltage = tied_voltages(ties, potential)
    return tuple([voltage.get(name, ahead) for (name, _), ahead in zip(circuit.parts, standing)])


def _difference(row, other):
    return tuple([minus(number, less) for number, less in zip(row, other)])


def _tells_number(entry, junction):
    """Whether the entry is a tuple of this junction and a fraction."""
    if not isinstance(entry, tuple) or len(entry) != 2:
        return False
    return entry[0] == junction and is_fraction(entry[1])


def _corners(many):
    """The standing of noughts, and for each part the one in which it alone has 1."""
    noughts = (ZERO,) * many
    return [noughts] + [noughts[:at] + (ONE,) + noughts[at + 1:] for at in range(many)]


def _is_same_either_way(circuit, first, second, standing):
    one = joined(circuit, second, joined(circuit, first, standing))
    other = joined(circuit, first, joined(circuit, second, standing))
    return one == other
