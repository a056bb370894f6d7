"""Loads: charges that are taken at a junction while a joining is made."""

from chargeturns.checks import check_joining, check_round, check_standing
from chargeturns.circuits import grounded
from chargeturns.elimination import solution
from chargeturns.errors import BadCharge, BadLoad, Drains, Floats, NoJunction
from chargeturns.network import free_junctions, given_potentials, hanging_junctions
from chargeturns.network import settled_potentials, standing_at, ties_of
from chargeturns.ratios import ONE, ZERO, is_fraction, is_integer, minus
from chargeturns.rows import noughts
from chargeturns.spaces import kept_by, sum_equations
from chargeturns.turning import steady_equations


def loaded(circuit, joining, junction, charge, standing):
    """The standing behind the joining, if so much charge is taken at the junction while it is made."""
    check_joining(circuit, joining)
    if not _is_junction(circuit, joining, junction):
        raise NoJunction(junction)
    if not is_fraction(charge):
        raise BadCharge(charge)
    check_standing(circuit, standing)
    _check_hanging(circuit, joining, junction)
    return _with_less(circuit, joining, {junction: charge}, standing)


def loaded_cycle(circuit, script, load, standing):
    """The steady cycle with the load, and with the sums of the standing; or a kept row whose sum it drains."""
    check_round(circuit, script)
    if not _is_load(circuit, script, load):
        raise BadLoad(load)
    check_standing(circuit, standing)
    number, junction, charge = load
    _check_hanging(circuit, script[number], junction)
    kept = kept_by(circuit, script)
    for row in kept:
        if charge != ZERO and _potential_at(grounded(circuit), script[number], junction, row) != ZERO:
            return ("drains", row)
    start = _loaded_run(circuit, script, load, noughts(len(circuit)))[-1]
    equations = steady_equations(circuit, script, start) + sum_equations(circuit, kept, standing)
    first = tuple(solution(equations, len(circuit)))
    return ("cycle", _loaded_run(circuit, script, load, first)[:-1])


def slope(circuit, script, number, junction):
    """By how much the junction's potential is less, behind this joining of the cycle, for each charge taken there."""
    check_round(circuit, script)
    load = (number, junction, ONE)
    if not _is_load(circuit, script, load):
        raise BadLoad((number, junction))
    # With sources at 0 the potential without a load is 0, too.
    flat = grounded(circuit)
    word, told = loaded_cycle(flat, script, load, noughts(len(circuit)))
    if word == "drains":
        raise Drains(told)
    after = (told + told[:1])[number + 1]
    return minus(ZERO, _potential_at(flat, script[number], junction, after))


def _is_junction(circuit, joining, value):
    """Whether the value is the ground, a source, or a free junction that the joining's ties name."""
    return value in list(given_potentials(circuit)) + free_junctions(circuit, ties_of(circuit, joining))


def _is_load(circuit, script, value):
    """Whether the value is a load: the number of a joining of the script, a junction of it, a charge."""
    if not isinstance(value, tuple) or len(value) != 3:
        return False
    number, junction, charge = value
    if not is_integer(number) or not 0 <= number < len(script):
        return False
    return _is_junction(circuit, script[number], junction) and is_fraction(charge)


def _check_hanging(circuit, joining, junction):
    """Raises Floats unless the junction hangs in the joining."""
    if junction not in hanging_junctions(circuit, ties_of(circuit, joining)):
        raise Floats(junction)


def _with_less(circuit, joining, taken, standing):
    """The standing behind the joining, if the charges, told by junction, are taken meanwhile."""
    ties = ties_of(circuit, joining)
    return standing_at(circuit, ties, settled_potentials(circuit, ties, standing, taken), standing)


def _loaded_run(circuit, script, load, standing):
    """All standings of one round with the load: the one handed in, and those behind each joining."""
    number, junction, charge = load
    standings = [standing]
    for at, joining in enumerate(script):
        taken = {junction: charge} if at == number else {}
        standings.append(_with_less(circuit, joining, taken, standings[-1]))
    return tuple(standings)


def _potential_at(circuit, joining, junction, standing):
    """The potential that a standing that fits the joining has at a junction that hangs in it."""
    return settled_potentials(circuit, ties_of(circuit, joining), standing, {})[junction]
