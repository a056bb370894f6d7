"""What is known of spaces, rests and lots without the program: by Python's own fractions, tie by tie."""

from fractions import Fraction

from chargeturns.circuits import Circuit, grounded
from tests.making import came_to_junctions, fractions_of, free_of, given_of, parted, spread_potentials, text_of


def rank_of(rows):
    """How many rows of the list it takes to make them all."""
    rows, rank = [list(numbers) for numbers in rows], 0
    for column in range(len(rows[0]) if rows else 0):
        leading = [numbers for numbers in rows if numbers[column] != 0]
        if leading:
            rank += 1
            rows.remove(leading[0])
            factors = [numbers[column] / leading[0][column] for numbers in rows]
            rows = [[a - factor * b for a, b in zip(numbers, leading[0])] for factor, numbers in zip(factors, rows)]
    return rank


def ties_named(circuit, joining):
    return dict(circuit.joinings)[joining]


def tie_rows(circuit, joinings):
    """For each tie: factors of all voltages, factors of all free potentials, and what both have to add up to."""
    given, names = given_of(circuit), [name for name, _ in circuit.parts]
    free = [(joining, end) for joining in joinings for end in free_of(circuit, ties_named(circuit, joining))]
    rows = []
    for joining in joinings:
        for part, plus, minus in ties_named(circuit, joining):
            volts = [Fraction(name == part) for name in names]
            ends = [Fraction((end == (joining, minus)) - (end == (joining, plus))) for end in free]
            rows.append((volts, ends, given.get(plus, Fraction(0)) - given.get(minus, Fraction(0))))
    return rows


def is_fitted_by_one(circuit, joinings):
    """Whether one standing fits all of these joinings."""
    rows = tie_rows(circuit, sorted(set(joinings)))
    return rank_of([a + b for a, b, _ in rows]) == rank_of([a + b + [c] for a, b, c in rows])


def many_kept_by(circuit, joinings):
    """How many rows it takes to make all that are directions of each of these joinings."""
    rows = tie_rows(circuit, sorted(set(joinings)))
    return len(circuit) - rank_of([a + b for a, b, _ in rows]) + rank_of([b for _, b, _ in rows])


def names_of(circuit):
    return [joining for joining, _ in circuit.joinings]


def is_direction(circuit, joining, row):
    return spread_potentials(grounded(circuit), ties_named(circuit, joining), row) is not None


def does_fit_all(circuit, joinings, standing):
    return all(spread_potentials(circuit, ties_named(circuit, joining), standing) is not None for joining in joinings)


def sum_in(circuit, row, standing):
    sizes = [Fraction(*size) for _, size in circuit.parts]
    return sum(a * b * c for a, b, c in zip(sizes, fractions_of(row), fractions_of(standing)))


def is_plain_list(rows, width):
    """Whether the rows are a plain list, by its conditions."""
    if type(rows) is not tuple or not all(type(told) is tuple and len(told) == width for told in rows):
        return False
    numbers = [fractions_of(told) for told in rows]
    if not all(any(told) for told in numbers):
        return False
    firsts = [[number != 0 for number in told].index(True) for told in numbers]
    if firsts != sorted(set(firsts)):
        return False
    return all([told[at] for told in numbers] == [k == m for m in range(len(rows))] for k, at in enumerate(firsts))


def drawn_by(circuit, lot):
    """What a lot draws; None unless it is one by all its conditions."""
    if [joining for joining, _ in lot] != names_of(circuit):
        return None
    drawn, voltages = Fraction(0), given_of(circuit)
    for joining, told in lot:
        ties = ties_named(circuit, joining)
        charge = dict(zip([name for name, _ in circuit.parts], fractions_of(told)))
        came = came_to_junctions(circuit, ties, fractions_of(told))
        tied = [part for part, _, _ in ties]
        if any(number for name, number in charge.items() if name not in tied):
            return None
        if any(came[end] for end in free_of(circuit, ties)):
            return None
        drawn += sum(came[end] * voltages[end] for end in voltages)
    if any(sum(numbers) for numbers in zip(*[fractions_of(told) for _, told in lot])):
        return None
    return drawn or None


def of_these_joinings(circuit, joinings):
    """The circuit that has just these of its joinings."""
    sources, parts, told = parted(circuit)
    return Circuit(text_of(sources, parts, [entry for entry in told if entry[0] in joinings]))


def along(one, other, factor):
    """The standing that is one plus so many times the way from one to other."""
    told = [a + factor * (b - a) for a, b in zip(fractions_of(one), fractions_of(other))]
    return tuple((number.numerator, number.denominator) for number in told)


def with_kept(dice, standing, rows):
    """The standing with multiples of these rows added to it."""
    numbers = fractions_of(standing)
    for told in rows:
        factor = Fraction(dice.randint(-9, 9), dice.randint(1, 4))
        numbers = [a + factor * b for a, b in zip(numbers, fractions_of(told))]
    return tuple((number.numerator, number.denominator) for number in numbers)
