"""Steady cycles of scripts that are done round and round."""

from chargeturns.checks import check_round, check_standing, is_row, names_of
from chargeturns.elimination import solution
from chargeturns.joinings import flow
from chargeturns.network import came_to
from chargeturns.ratios import total
from chargeturns.rows import noughts
from chargeturns.scripts import behind, losses, run
from chargeturns.spaces import kept_by, sum_equations
from chargeturns.turning import steady_equations


def own_kept(circuit, script):
    """The plain list of all rows that the script keeps."""
    check_round(circuit, script)
    return kept_by(circuit, script)


def cycle(circuit, script, standing):
    """The steady cycle in which all rows that the script keeps have the same sums as in the standing."""
    check_round(circuit, script)
    check_standing(circuit, standing)
    start = behind(circuit, script, noughts(len(circuit)))
    sums = sum_equations(circuit, kept_by(circuit, script), standing)
    first = tuple(solution(steady_equations(circuit, script, start) + sums, len(circuit)))
    return run(circuit, script[:-1], first)


def shows_cycle(circuit, script, standing, value):
    """Whether the value is right as what cycle tells."""
    told = cycle(circuit, script, standing)
    if not isinstance(value, tuple) or not all([is_row(circuit, row) for row in value]):
        return False
    return value == told


def lost_in_cycle(circuit, script):
    """What all joinings of a steady cycle lose together, in one round."""
    first = _some_cycle(circuit, script)[0]
    return total(losses(circuit, script, first))


def supplied(circuit, script):
    """For each source, by its name, the charge that it gives in one round of a steady cycle."""
    standings = _some_cycle(circuit, script)
    steps = [(joining, flow(circuit, joining, ahead)) for joining, ahead in zip(script, standings)]
    given = []
    for source in names_of(circuit.sources):
        came = [came_to(circuit, joining, charge, source) for joining, charge in steps]
        given.append((source, total(came)))
    return tuple(given)


def _some_cycle(circuit, script):
    """Any steady cycle of the script: all of them lose and give the same."""
    return cycle(circuit, script, noughts(len(circuit)))
