"""How quick a script is, done round and round: what a round makes of the gap between a run and its cycle."""

from chargeturns.checks import check_round, is_answer, is_row
from chargeturns.elimination import null_rows, plain_rows
from chargeturns.errors import BadRate, BadWithin
from chargeturns.forms import below_nought
from chargeturns.joinings import square
from chargeturns.ratios import HALF, ONE, ZERO, is_above_nought, is_integer, is_less, is_rate
from chargeturns.ratios import minus, plus, times
from chargeturns.rows import charges, inner, noughts, put_together
from chargeturns.spaces import kept_by
from chargeturns.turning import turned


def holds(circuit, script, rate):
    """Whether the rate holds for the script; if not, a gap that breaks it."""
    check_round(circuit, script)
    if not is_rate(rate):
        raise BadRate(rate)
    gap = _breaking_gap(_gaps_and_products(circuit, script), rate)
    if gap is None:
        return ("holds",)
    return ("broken", gap)


def shows_holds(circuit, script, rate, value):
    """Whether the value is right as what holds tells."""
    told = holds(circuit, script, rate)
    if told == ("holds",):
        return value == told
    return is_answer(value, "broken", 2) and _does_break(circuit, script, rate, value[1])


def quickness(circuit, script, within):
    """A rate that a gap breaks, one that holds, at most so much greater, and the gap."""
    _check_within(circuit, script, within)
    told = _gaps_and_products(circuit, script)
    low, high, gap = ZERO, ONE, _breaking_gap(told, ZERO)
    if gap is None:
        return (ZERO, ZERO, None)
    while is_less(within, minus(high, low)):
        middle = times(plus(low, high), HALF)
        found = _breaking_gap(told, middle)
        if found is None:
            high = middle
        else:
            low, gap = middle, found
    return (low, high, gap)


def shows_quickness(circuit, script, within, value):
    """Whether the value is right as what quickness tells."""
    _check_within(circuit, script, within)
    if not isinstance(value, tuple) or len(value) != 3:
        return False
    low, high, gap = value
    if not is_rate(low) or not is_rate(high):
        return False
    if holds(circuit, script, ZERO) == ("holds",):
        return value == (ZERO, ZERO, None)
    if is_less(within, minus(high, low)) or not _does_break(circuit, script, low, gap):
        return False
    return holds(circuit, script, high) == ("holds",)


def finite(circuit, script):
    """The least number of rounds that lead all gaps to 0; or a gap that no number of rounds leads there."""
    check_round(circuit, script)
    number, rows = _last_gaps(circuit, script)
    if rows == ():
        return ("behind", number)
    return ("never", rows[0])


def shows_finite(circuit, script, value):
    """Whether the value is right as what finite tells."""
    check_round(circuit, script)
    number, rows = _last_gaps(circuit, script)
    if rows == ():
        return is_answer(value, "behind", 2) and is_integer(value[1]) and value[1] == number
    if not is_answer(value, "never", 2) or not _is_gap(circuit, script, value[1]):
        return False
    return _behind_rounds(circuit, script, number, value[1]) != noughts(len(circuit))


def _check_within(circuit, script, within):
    check_round(circuit, script)
    if not is_above_nought(within):
        raise BadWithin(within)


def _gap_rows(circuit, script):
    """The plain list of all gaps."""
    return null_rows([charges(circuit, row) for row in kept_by(circuit, script)], len(circuit))


def _is_gap(circuit, script, value):
    if not is_row(circuit, value):
        return False
    return all([inner(charges(circuit, row), value) == ZERO for row in kept_by(circuit, script)])


def _does_break(circuit, script, rate, value):
    """Whether the value is a gap that breaks the rate."""
    if not _is_gap(circuit, script, value):
        return False
    return is_less(times(rate, square(circuit, value)), square(circuit, turned(circuit, script, value)))


def _last_gaps(circuit, script):
    """The number of rounds from which on none leads more gaps to 0, and the plain list of what is left of them then."""
    number, rows = 0, _gap_rows(circuit, script)
    after = _led_on(circuit, script, rows)
    while len(after) < len(rows):
        number, rows = number + 1, after
        after = _led_on(circuit, script, rows)
    return (number, rows)


def _led_on(circuit, script, rows):
    """The plain list of all that a round makes of sums of multiples of these rows."""
    return plain_rows([turned(circuit, script, row) for row in rows])


def _behind_rounds(circuit, script, number, gap):
    """Where so many rounds lead the gap."""
    for _ in range(number):
        gap = turned(circuit, script, gap)
    return gap


def _gaps_and_products(circuit, script):
    """Gaps of which all are made; the products of each two of them; those of their rounds."""
    gaps = _gap_rows(circuit, script)
    rounds = [turned(circuit, script, gap) for gap in gaps]
    return (gaps, _products(circuit, gaps), _products(circuit, rounds))


def _products(circuit, rows):
    """For each two of the rows the sum of size times both numbers, as a table."""
    return [[inner(charges(circuit, row), other) for other in rows] for row in rows]


def _breaking_gap(told, rate):
    """A gap that breaks the rate; None if the rate holds."""
    gaps, ahead, after = told
    table = []
    for row, later in zip(ahead, after):
        table.append([minus(times(rate, number), less) for number, less in zip(row, later)])
    factors = below_nought(table)
    if factors is None:
        return None
    # All multiples of a gap but 0 break the same rates; this one has 1 as its first number.
    return plain_rows([put_together(factors, gaps)])[0]
