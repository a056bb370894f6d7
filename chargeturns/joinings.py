"""One joining: where parts stand behind it, what flows, what is lost."""

from chargeturns.checks import check_joining, check_row, check_standing, is_answer, is_row
from chargeturns.errors import Unfit
from chargeturns.network import free_junctions, given_potentials, settled_potentials, standing_at, ties_of
from chargeturns.ratios import is_fraction
from chargeturns.rows import charges, corners, difference, inner, noughts


def does_fit(circuit, joining, standing):
    """Whether the standing fits the joining."""
    # Of all standings that fit, one that fits is the nearest to itself.
    return joined(circuit, joining, standing) == standing


def joined(circuit, joining, standing):
    """The standing behind the joining: the nearest one that fits it."""
    check_joining(circuit, joining)
    check_standing(circuit, standing)
    ties = ties_of(circuit, joining)
    return standing_at(circuit, ties, settled_potentials(circuit, ties, standing, {}), standing)


def flow(circuit, joining, standing):
    """What came to each part, as they stand, when the standing was joined."""
    behind = joined(circuit, joining, standing)
    return charges(circuit, difference(behind, standing))


def lost(circuit, joining, standing):
    """The square that the joining loses."""
    behind = joined(circuit, joining, standing)
    return square(circuit, difference(behind, standing))


def square(circuit, row):
    """The sum of size times the square of the number, over all parts."""
    check_row(circuit, row)
    return inner(charges(circuit, row), row)


def potentials(circuit, joining, standing):
    """Any potentials of the free junctions with which the standing fits the joining."""
    check_joining(circuit, joining)
    check_standing(circuit, standing)
    ties = ties_of(circuit, joining)
    potential = settled_potentials(circuit, ties, standing, {})
    if standing_at(circuit, ties, potential, standing) != standing:
        raise Unfit(standing)
    return tuple([(junction, potential[junction]) for junction in free_junctions(circuit, ties)])


def shows_potentials(circuit, joining, standing, value):
    """Whether the value is right as what potentials tells."""
    if not does_fit(circuit, joining, standing):
        raise Unfit(standing)
    ties = ties_of(circuit, joining)
    free = free_junctions(circuit, ties)
    if not isinstance(value, tuple) or len(value) != len(free):
        return False
    potential = given_potentials(circuit)
    for junction, entry in zip(free, value):
        if not _tells_number(entry, junction):
            return False
        potential[junction] = entry[1]
    return standing_at(circuit, ties, potential, standing) == standing


def either_way(circuit, first, second):
    """Whether it is the same for all standings which of two joinings comes first."""
    check_joining(circuit, first)
    check_joining(circuit, second)
    # Both ways are straight maps: alike for these standings, they are alike for all.
    for standing in [noughts(len(circuit))] + corners(len(circuit)):
        if not _is_same_either_way(circuit, first, second, standing):
            return ("unlike", standing)
    return ("alike",)


def shows_either_way(circuit, first, second, value):
    """Whether the value is right as what either_way tells."""
    told = either_way(circuit, first, second)
    if told == ("alike",):
        return value == told
    if not is_answer(value, "unlike", 2):
        return False
    return is_row(circuit, value[1]) and not _is_same_either_way(circuit, first, second, value[1])


def _tells_number(entry, junction):
    """Whether the entry is a tuple of this junction and a fraction."""
    return is_answer(entry, junction, 2) and is_fraction(entry[1])


def _is_same_either_way(circuit, first, second, standing):
    one = joined(circuit, second, joined(circuit, first, standing))
    other = joined(circuit, first, joined(circuit, second, standing))
    return one == other
