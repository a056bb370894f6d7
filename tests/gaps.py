"""Gaps of scripts and rates, worked out by determinants, of joinings and cycles that have tests of their own."""

from fractions import Fraction
from itertools import combinations

from chargeturns.circuits import Circuit, grounded
from chargeturns.cycles import cycle
from chargeturns.scripts import behind
from tests.making import fractions_of, pair, row, square_of


def corners_of(circuit):
    many = len(circuit)
    return [row(*[int(k == place) for k in range(many)]) for place in range(many)]


def gap_of(circuit, script, standing):
    """What lies between the standing and its cycle when all sources are 0."""
    first = cycle(grounded(circuit), script, standing)[0]
    return tuple(pair(a - b) for a, b in zip(fractions_of(standing), fractions_of(first)))


def round_of(circuit, script, gap):
    return behind(grounded(circuit), script, gap)


def squares_of_round(circuit, script, gap):
    """The squares of the gap and of its round."""
    return [square_of(circuit, fractions_of(numbers)) for numbers in (gap, round_of(circuit, script, gap))]


def does_break(circuit, script, rate, gap):
    ahead, after = squares_of_round(circuit, script, gap)
    return after > Fraction(*rate) * ahead


def product_of(circuit, one, other):
    sizes = [Fraction(*size) for _, size in circuit.parts]
    return sum(size * a * b for size, a, b in zip(sizes, fractions_of(one), fractions_of(other)))


def determinant(rows):
    """By its first row, place by place."""
    if not rows:
        return Fraction(1)
    found = Fraction(0)
    for at, number in enumerate(rows[0]):
        if number:
            found += (-1) ** at * number * determinant([told[:at] + told[at + 1:] for told in rows[1:]])
    return found


def is_nowhere_below_nought(table):
    """Whether a symmetric table, times numbers twice, is never below 0: no determinant along its diagonal is."""
    places = range(len(table))
    chosen = [some for many in range(1, len(table) + 1) for some in combinations(places, many)]
    return all(determinant([[table[a][b] for b in some] for a in some]) >= 0 for some in chosen)


def does_hold(circuit, script, rate):
    """Whether a rate holds, by determinants alone; for few parts."""
    gaps = [gap_of(circuit, script, corner) for corner in corners_of(circuit)]
    rounds = [round_of(circuit, script, gap) for gap in gaps]
    rate, places = Fraction(*rate), range(len(gaps))
    ahead = [[product_of(circuit, gaps[a], gaps[b]) for b in places] for a in places]
    after = [[product_of(circuit, rounds[a], rounds[b]) for b in places] for a in places]
    return is_nowhere_below_nought([[rate * ahead[a][b] - after[a][b] for b in places] for a in places])


def chain(many):
    """A circuit of three or four parts, and a script that passes charge on from part to part, to drop it at the last."""
    names = ["a", "b", "c", "d"][:many]
    lines = ["circuit", "source v 5"] + [f"part {name} {size}" for name, size in zip(names, (1, 2, "1/3", 5))]
    for one, other in zip(names, names[1:]):
        lines += [f"joining {one}{other}", f"tie {one} x gnd", f"tie {other} x gnd"]
    if many == 3:
        for name in names:
            lines += [f"joining {name}", f"tie {name} gnd gnd"]
        return Circuit("\n".join(lines)), ("c", "bc", "b", "ab", "a")
    lines += ["joining ends", "tie a y y", "tie d y y", "joining c", "tie c v v", "joining b", "tie b gnd gnd"]
    return Circuit("\n".join(lines)), ("ends", "cd", "c", "bc", "b", "ab")
