"""What can be told of a standing by looking at some parts, behind whatever scripts."""

from chargeturns.checks import check_row, check_seen, check_standing, is_answer, is_row, is_script, names_of
from chargeturns.circuits import grounded
from chargeturns.elimination import null_rows, plain_rows
from chargeturns.joinings import joined
from chargeturns.ratios import ZERO
from chargeturns.rows import charges, corners, difference, inner
from chargeturns.scripts import behind


def unseen(circuit, seen):
    """The plain list of all differences of standings that look alike under all scripts."""
    check_seen(circuit, seen)
    return null_rows([charges(circuit, row) for row, _ in _looks(circuit, seen)], len(circuit))


def alike(circuit, seen, one, other):
    """Whether the standings look alike under all scripts; if not, a script behind which they do not."""
    check_seen(circuit, seen)
    check_standing(circuit, one)
    check_standing(circuit, other)
    way = charges(circuit, difference(other, one))
    for row, script in _looks(circuit, seen):
        if inner(way, row) != ZERO:
            return ("parted", script)
    return ("alike",)


def shows_alike(circuit, seen, one, other, value):
    """Whether the value is right as what alike tells."""
    told = alike(circuit, seen, one, other)
    if told == ("alike",):
        return value == told
    if not is_answer(value, "parted", 2) or not is_script(circuit, value[1]):
        return False
    return len(value[1]) < len(circuit) and _does_part(circuit, seen, one, other, value[1])


def can_tell(circuit, seen, row):
    """Whether all that is seen tells the sum of row times voltage; if not, a difference that hides it."""
    check_seen(circuit, seen)
    check_row(circuit, row)
    for hidden in unseen(circuit, seen):
        if inner(row, hidden) != ZERO:
            return ("hidden", hidden)
    return ("told",)


def shows_can_tell(circuit, seen, row, value):
    """Whether the value is right as what can_tell tells."""
    told = can_tell(circuit, seen, row)
    if told == ("told",):
        return value == told
    if not is_answer(value, "hidden", 2) or not is_row(circuit, value[1]):
        return False
    if inner(row, value[1]) == ZERO:
        return False
    weighed = charges(circuit, value[1])
    return all([inner(weighed, look) == ZERO for look, _ in _looks(circuit, seen)])


def _does_part(circuit, seen, one, other, script):
    """Whether some seen part has unlike voltages behind the script."""
    way = difference(behind(circuit, script, one), behind(circuit, script, other))
    return any([name in seen and number != ZERO for name, number in zip(names_of(circuit.parts), way)])


def _looks(circuit, seen):
    """As few looks as tell all that can be seen: rows, each with the script behind which it is seen.

    What a look tells of a difference is the sum of size times row times difference. That sum is the same whether a
    joining, sources at 0, is done on the one or on the other: done on a look it makes of it what is seen one sooner.
    """
    flat, joinings = grounded(circuit), names_of(circuit.joinings)
    newest = [(row, ()) for name, row in zip(names_of(circuit.parts), corners(len(circuit))) if name in seen]
    looks = newest
    while newest:
        sooner = [(joined(flat, name, row), (name,) + script) for row, script in newest for name in joinings]
        newest = []
        for look in sooner:
            if _tells_more(look, looks + newest):
                newest.append(look)
        looks = looks + newest
    return looks


def _tells_more(look, looks):
    """Whether the look's row is made of none of the others, of which none is made of the rest."""
    return len(plain_rows([row for row, _ in looks + [look]])) > len(looks)
