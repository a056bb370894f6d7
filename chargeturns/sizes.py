"""What hangs on the sizes of parts, and what does not."""

from chargeturns.checks import check_sizes, is_answer, is_row, is_sizes, names_of
from chargeturns.circuits import with_size
from chargeturns.ratios import ZERO, times
from chargeturns.rests import hangs, rest
from chargeturns.sums import kept_rows


def with_sizes(circuit, sizes):
    """The circuit whose parts, as they stand, have these sizes."""
    check_sizes(circuit, sizes)
    for part, size in zip(names_of(circuit.parts), sizes):
        circuit = with_size(circuit, part, size)
    return circuit


def fixed_parts(circuit):
    """All parts that have one voltage in all rests, with it."""
    told = [(part, hangs(circuit, part)) for part in names_of(circuit.parts)]
    return tuple([(part, answer[1]) for part, answer in told if answer[0] == "fixed"])


def for_all_sizes(circuit, standing):
    """The standing's rest, if it is the same for all sizes; otherwise two tables of sizes with unlike rests."""
    settled = rest(circuit, standing)
    kept, sizes = kept_rows(circuit), tuple([size for _, size in circuit.parts])
    for place, size in enumerate(sizes):
        # The way to the rest stands at right angles to kept rows: with another size here it no longer does.
        if settled[place] != standing[place] and any([row[place] != ZERO for row in kept]):
            return ("hangs", sizes, sizes[:place] + (times(size, (2, 1)),) + sizes[place + 1:])
    return ("same", settled)


def shows_for_all_sizes(circuit, standing, value):
    """Whether the value is right as what for_all_sizes tells."""
    told = for_all_sizes(circuit, standing)
    if told[0] == "same":
        return is_answer(value, "same", 2) and is_row(circuit, value[1]) and value == told
    if not is_answer(value, "hangs", 3):
        return False
    _, one, other = value
    if not is_sizes(circuit, one) or not is_sizes(circuit, other):
        return False
    return rest(with_sizes(circuit, one), standing) != rest(with_sizes(circuit, other), standing)
