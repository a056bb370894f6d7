"""Scripts: joinings done one behind the other."""

from chargeturns.checks import check_script, check_standing
from chargeturns.joinings import joined, square
from chargeturns.rows import difference


def behind(circuit, script, standing):
    """The standing behind the whole script."""
    return run(circuit, script, standing)[-1]


def run(circuit, script, standing):
    """All standings: the one handed in, and those behind each joining."""
    check_script(circuit, script)
    check_standing(circuit, standing)
    standings = [standing]
    for joining in script:
        standings.append(joined(circuit, joining, standings[-1]))
    return tuple(standings)


def losses(circuit, script, standing):
    """The square that is lost at each joining of the script."""
    standings = run(circuit, script, standing)
    return squares_between(circuit, standings, standings[1:])


def apart(circuit, script, one, other):
    """The squares of the differences of both runs, at first and behind each joining."""
    return squares_between(circuit, run(circuit, script, one), run(circuit, script, other))


def squares_between(circuit, standings, others):
    """The squares of the differences, as far as both go."""
    return tuple([square(circuit, difference(one, other)) for one, other in zip(standings, others)])
