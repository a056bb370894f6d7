"""Rests, which are standings that fit all joinings; and lots of charges, which show that there is none."""

from chargeturns.checks import check_part, check_standing, is_answer, is_row, names_of
from chargeturns.elimination import solution
from chargeturns.errors import BadLot, NoRest
from chargeturns.joinings import does_fit, square
from chargeturns.network import drawn
from chargeturns.ratios import ONE, ZERO, is_fraction, times, total
from chargeturns.rows import difference, inner, noughts
from chargeturns.spaces import charge_rows, direction_rows, sum_equations
from chargeturns.sums import is_kept, kept_rows, sum_of


def any_rest(circuit):
    """Any rest; or any lot, if there is no rest."""
    found = solution(_fit_equations(circuit), len(circuit))
    if found is None:
        return ("lot", _some_lot(circuit))
    return ("rest", tuple(found))


def shows_any_rest(circuit, value):
    """Whether the value is right as what any_rest tells."""
    if is_answer(value, "rest", 2):
        return is_row(circuit, value[1]) and _is_rest(circuit, value[1])
    return is_answer(value, "lot", 2) and _is_lot(circuit, value[1])


def draws(circuit, lot):
    """What the lot draws from the sources."""
    if not _is_lot(circuit, lot):
        raise BadLot(lot)
    return _drawn_by(circuit, lot)


def rest(circuit, standing):
    """Of all rests the nearest to the standing."""
    check_standing(circuit, standing)
    _some_rest(circuit)
    # The way to the nearest one stands at right angles to all kept rows: it keeps their sums.
    sums = sum_equations(circuit, kept_rows(circuit), standing)
    return tuple(solution(_fit_equations(circuit) + sums, len(circuit)))


def left(circuit, standing):
    """The square of the way from the standing to its rest."""
    return square(circuit, difference(rest(circuit, standing), standing))


def one_rest(circuit, one, other):
    """Whether both standings have the same rest; if not, a kept row whose sums tell them apart."""
    check_standing(circuit, one)
    check_standing(circuit, other)
    _some_rest(circuit)
    for row in kept_rows(circuit):
        if sum_of(circuit, row, one) != sum_of(circuit, row, other):
            return ("apart", row)
    return ("one",)


def shows_one_rest(circuit, one, other, value):
    """Whether the value is right as what one_rest tells."""
    told = one_rest(circuit, one, other)
    if told == ("one",):
        return value == told
    if not is_answer(value, "apart", 2) or not _is_kept_row(circuit, value[1]):
        return False
    return sum_of(circuit, value[1], one) != sum_of(circuit, value[1], other)


def hangs(circuit, part):
    """The part's voltage in all rests; or a kept row with which it hangs on the beginning."""
    check_part(circuit, part)
    standing = _some_rest(circuit)
    place = names_of(circuit.parts).index(part)
    for row in kept_rows(circuit):
        if row[place] != ZERO:
            return ("hangs", row)
    return ("fixed", standing[place])


def shows_hangs(circuit, part, value):
    """Whether the value is right as what hangs tells."""
    told = hangs(circuit, part)
    if not is_answer(value, told[0], 2):
        return False
    if told[0] == "fixed":
        # Compared alone, True would pass for 1.
        return is_fraction(value[1]) and value == told
    place = names_of(circuit.parts).index(part)
    return _is_kept_row(circuit, value[1]) and value[1][place] != ZERO


def _some_rest(circuit):
    """Any rest; raises NoRest if there is none."""
    told = any_rest(circuit)
    if told[0] == "lot":
        raise NoRest(told)
    return told[1]


def _is_rest(circuit, standing):
    return all([does_fit(circuit, joining, standing) for joining in names_of(circuit.joinings)])


def _is_kept_row(circuit, value):
    return is_row(circuit, value) and is_kept(circuit, value) == ("kept",)


def _charge_table(circuit):
    """For each joining, by its name, the rows of charges that a lot can be made of."""
    return [(joining, row) for joining in names_of(circuit.joinings) for row in charge_rows(circuit, joining)]


def _fit_equations(circuit):
    """Equations that hold for just the voltages that fit all joinings: charges times them are what is drawn."""
    return [row + (drawn(circuit, joining, row),) for joining, row in _charge_table(circuit)]


def _some_lot(circuit):
    """A lot that draws 1; there is one where there is no rest."""
    table = _charge_table(circuit)
    equations = [[row[place] for _, row in table] + [ZERO] for place in range(len(circuit))]
    equations.append([drawn(circuit, joining, row) for joining, row in table] + [ONE])
    shares = solution(equations, len(table))
    taken = [(name, [times(share, number) for number in row]) for (name, row), share in zip(table, shares)]
    lot = []
    for joining in names_of(circuit.joinings):
        lot.append((joining, _added_up(circuit, [row for name, row in taken if name == joining])))
    return tuple(lot)


def _is_lot(circuit, value):
    """Whether the value is a lot, by all its conditions."""
    names = names_of(circuit.joinings)
    if not isinstance(value, tuple) or len(value) != len(names):
        return False
    for joining, entry in zip(names, value):
        if not is_answer(entry, joining, 2) or not _is_charge_row(circuit, joining, entry[1]):
            return False
    if _added_up(circuit, [row for _, row in value]) != noughts(len(circuit)):
        return False
    return _drawn_by(circuit, value) != ZERO


def _is_charge_row(circuit, joining, value):
    """Whether the value is a row of which nothing comes to a free junction, or to a part that is not tied."""
    if not is_row(circuit, value):
        return False
    # Just those rows, times each direction, add up to 0.
    return all([inner(value, row) == ZERO for row in direction_rows(circuit, joining)])


def _drawn_by(circuit, lot):
    return total([drawn(circuit, joining, row) for joining, row in lot])


def _added_up(circuit, rows):
    """The sum of the rows, place by place."""
    return tuple([total([row[place] for row in rows]) for place in range(len(circuit))])
