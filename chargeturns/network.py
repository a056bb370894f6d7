"""Junctions of a joining: their potentials, and the charge that comes to them."""

from chargeturns.checks import GROUND
from chargeturns.elimination import solution
from chargeturns.ratios import ZERO, minus, times, total


def ties_of(circuit, joining):
    """The ties of the joining of this name."""
    return [ties for name, ties in circuit.joinings if name == joining][0]


def given_potentials(circuit):
    """The potentials of the ground and of all sources, by name."""
    given = {GROUND: ZERO}
    for source, voltage in circuit.sources:
        given[source] = voltage
    return given


def free_junctions(circuit, ties):
    """The free junctions that the ties name, ascending."""
    given = given_potentials(circuit)
    named = [junction for tie in ties for junction in tie[1:]]
    return sorted({junction for junction in named if junction not in given})


def hanging_junctions(circuit, ties):
    """The ground, all sources, and the free junctions from which ties lead to one of these."""
    reached = {junction: True for junction in given_potentials(circuit)}
    # As long as one more can be reached, each time round the ties reaches one.
    for _ in ties:
        for _, plus, less in ties:
            if plus in reached or less in reached:
                reached[plus] = reached[less] = True
    return list(reached)


def tied_voltages(ties, potential):
    """The voltages of all tied parts, by name, that the potentials, by junction, give them."""
    return {part: minus(potential[plus], potential[less]) for part, plus, less in ties}


def standing_at(circuit, ties, potential, standing):
    """The standing with tied parts' voltages by the potentials, and all others as they are."""
    voltage = tied_voltages(ties, potential)
    return tuple([voltage.get(name, ahead) for (name, _), ahead in zip(circuit.parts, standing)])


def came_to(circuit, joining, charges, junction):
    """What comes to the junction of the joining when these charges come to the parts."""
    charge = {name: number for (name, _), number in zip(circuit.parts, charges)}
    return total([times((_side(tie, junction), 1), charge[tie[0]]) for tie in ties_of(circuit, joining)])


def drawn(circuit, joining, charges):
    """What comes to the junctions of all sources, each times its voltage."""
    given = [times(voltage, came_to(circuit, joining, charges, source)) for source, voltage in circuit.sources]
    return total(given)


def settled_potentials(circuit, ties, standing, taken):
    """The potentials of all junctions, by name, at which nothing comes to free ones but the contrary of what is taken.

    What is taken is a dict by junction; at junctions that it does not name it is nothing.
    """
    free = free_junctions(circuit, ties)
    potential = given_potentials(circuit)
    equations = _charge_equations(circuit, ties, standing, free, taken)
    for junction, number in zip(free, solution(equations, len(free))):
        potential[junction] = number
    return potential


def _charge_equations(circuit, ties, standing, free, taken):
    """For each free junction: what its potential and the others' must make up for at its parts."""
    size = dict(circuit.parts)
    ahead = {name: voltage for (name, _), voltage in zip(circuit.parts, standing)}
    given = _given_voltages(circuit, ties, free)
    lacking = {tie[0]: times(size[tie[0]], minus(ahead[tie[0]], given[tie[0]])) for tie in ties}
    equations = []
    for junction in free:
        near = [tie for tie in ties if junction in tie[1:]]
        row = [total([_weight(tie, junction, other, size) for tie in near]) for other in free]
        made_up = [times((_side(tie, junction), 1), lacking[tie[0]]) for tie in near]
        equations.append(row + [minus(total(made_up), taken.get(junction, ZERO))])
    return equations


def _given_voltages(circuit, ties, free):
    """The voltages of all tied parts, by name, that sources alone give them: free junctions at 0."""
    potential = given_potentials(circuit)
    for junction in free:
        potential[junction] = ZERO
    return tied_voltages(ties, potential)


def _weight(tie, junction, other, size):
    """The charge that comes to the junction, by the tie, for each volt of the other junction."""
    return times((_side(tie, junction) * _side(tie, other), 1), size[tie[0]])


def _side(tie, junction):
    """1 where the tied part's plus end lies, -1 where its minus end does, 0 where both or none."""
    return int(tie[1] == junction) - int(tie[2] == junction)
