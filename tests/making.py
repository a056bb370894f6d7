"""Circuits and standings for the tests, and what is known of them without the program."""

import random
import unittest
from fractions import Fraction

from chargeturns.bench import Bench
from chargeturns.circuits import Circuit
from chargeturns.desk import Desk

PART_NAMES = ["a", "b", "cc", "d", "east", "f", "gg", "hihihi"]
SOURCE_NAMES = ["v", "a", "low", "up"]
JOINING_NAMES = ["fill", "pour", "a", "j", "longer", "z"]
FREE_NAMES = ["m", "n", "o", "p", "q", "r", "s", "t", "u", "w", "x", "y", "xx", "yy", "zz", "zzzzzz"]


def fraction_word(number):
    """The fraction as texts write it, worked out by Python's own fractions."""
    return str(Fraction(number))


def pair(number):
    number = Fraction(number)
    return (number.numerator, number.denominator)


def row(*numbers):
    """A row of the program's fractions: row(1, '1/2')."""
    return tuple(pair(number) for number in numbers)


def fractions_of(told):
    return [Fraction(*number) for number in told]


def text_of(sources, parts, joinings):
    lines = ["circuit"]
    lines += [f"source {name} {fraction_word(voltage)}" for name, voltage in sources]
    lines += [f"part {name} {fraction_word(size)}" for name, size in parts]
    for name, ties in joinings:
        lines.append(f"joining {name}")
        lines += [f"tie {part} {plus} {minus}" for part, plus, minus in ties]
    return "\n".join(lines)


def parted(circuit):
    """Sources, parts, joinings of a circuit as lists, to be changed and written again."""
    sources = [(name, Fraction(*voltage)) for name, voltage in circuit.sources]
    parts = [(name, Fraction(*size)) for name, size in circuit.parts]
    return sources, parts, [(name, list(ties)) for name, ties in circuit.joinings]


def some_fraction(dice):
    return Fraction(dice.randint(-12, 12), dice.randint(1, 7))


def some_size(dice):
    return Fraction(dice.randint(1, 12), dice.randint(1, 7))


def ties_nothing(dice, parts, given):
    return []


def ties_ring(dice, parts, given):
    """Ties around one loop of free junctions."""
    around = FREE_NAMES[:len(parts)]
    return [(part, around[k], around[(k + 1) % len(parts)]) for k, part in enumerate(parts)]


def ties_in_a_row(dice, parts, given):
    """Ties behind one another from something given to something given."""
    along = [dice.choice(given)] + FREE_NAMES[:len(parts) - 1] + [dice.choice(given)]
    return [(part, along[k], along[k + 1]) for k, part in enumerate(parts)]


def ties_side_by_side(dice, parts, given):
    other = dice.choice(given + ["k"])
    return [(part, "m", other) for part in parts]


def ties_to_given(dice, parts, given):
    return [(part, dice.choice(given), dice.choice(given)) for part in parts]


def ties_at_one_junction(dice, parts, given):
    ends = [dice.choice(given + FREE_NAMES[:3]) for _ in parts]
    return [(part, end, end) for part, end in zip(parts, ends)]


def ties_with_loose_ends(dice, parts, given):
    return [(part, FREE_NAMES[2 * k], FREE_NAMES[2 * k + 1]) for k, part in enumerate(parts)]


def ties_anyhow(dice, parts, given):
    pool = given + FREE_NAMES[:dice.randint(1, 6)]
    return [(part, dice.choice(pool), dice.choice(pool)) for part in parts]


SHAPES = [
    ties_nothing,
    ties_ring,
    ties_in_a_row,
    ties_side_by_side,
    ties_to_given,
    ties_at_one_junction,
    ties_with_loose_ends,
    ties_anyhow,
    ties_anyhow,
    ties_anyhow,
]


def some_ties(dice, shape, names, given):
    many = dice.choice([dice.randint(1, len(names)), len(names)])
    chosen = dice.sample(names, many)
    ties = shape(dice, chosen, given)
    turned = [(part, b, a) if dice.random() < 0.3 else (part, a, b) for part, a, b in ties]
    dice.shuffle(turned)
    return turned


def some_circuit(seed):
    """A circuit; all numbers of sources, parts and joinings and all shapes come up over the seeds."""
    dice = random.Random(seed)
    sources = [(name, some_fraction(dice)) for name in dice.sample(SOURCE_NAMES, seed % 5)]
    parts = [(name, some_size(dice)) for name in dice.sample(PART_NAMES, 1 + seed % 8)]
    given = ["gnd"] + [name for name, _ in sources]
    names = [name for name, _ in parts]
    joinings = []
    for k, name in enumerate(dice.sample(JOINING_NAMES, 1 + seed % 6)):
        shape = SHAPES[(seed + k) % len(SHAPES)]
        joinings.append((name, some_ties(dice, shape, names, given)))
    return Circuit(text_of(sources, parts, joinings))


PUMPING = [ties_to_given, ties_side_by_side, ties_in_a_row, ties_anyhow]


def some_pump(seed):
    """A circuit with sources whose joinings tie two or three parts each, so that charge goes on from part to part."""
    dice = random.Random(9000 + seed)
    sources = [(name, some_fraction(dice)) for name in dice.sample(SOURCE_NAMES, 1 + seed % 4)]
    parts = [(name, some_size(dice)) for name in dice.sample(PART_NAMES, dice.randint(1, 8))]
    given = ["gnd"] + [name for name, _ in sources]
    joinings = []
    for k, name in enumerate(dice.sample(JOINING_NAMES, 1 + seed % 6)):
        few = [part for part, _ in dice.sample(parts, min(len(parts), dice.randint(1, 3)))]
        joinings.append((name, some_ties(dice, PUMPING[k % len(PUMPING)], few, given)))
    return Circuit(text_of(sources, parts, joinings))


def some_sharing(seed):
    """A circuit of two to eight parts, each joining of which lets a few of them share, or empties one, or fills it."""
    dice = random.Random(7000 + seed)
    sources = [("v", some_fraction(dice))][:seed % 2]
    parts = [(name, some_size(dice)) for name in dice.sample(PART_NAMES, 2 + seed % 7)]
    names, joinings = [name for name, _ in parts], []
    for k, name in enumerate(dice.sample(JOINING_NAMES, 2 + seed % 5)):
        chosen = dice.sample(names, min(len(names), dice.randint(2, 4)))
        ties = [(part, "m", "gnd") for part in chosen]
        if k % 3 == 1:
            ties = [(dice.choice(names), dice.choice(["gnd", sources[0][0] if sources else "n"]), "gnd")]
        joinings.append((name, ties))
    return Circuit(text_of(sources, parts, joinings))


def some_script(dice, circuit, many):
    """A script of so many joinings of the circuit, taken at random, one perhaps again and again."""
    return tuple(dice.choice(circuit.joinings)[0] for _ in range(many))


def circuits_of_both_kinds(many):
    """So many circuits of all shapes, and as many whose joinings move charge from part to part."""
    return [some_circuit(seed) for seed in range(many)] + [some_pump(seed) for seed in range(many)]


def called_otherwise(circuit):
    """The circuit with other names for all free junctions, joining by joining."""
    sources, parts, joinings = parted(circuit)
    called = []
    for k, (joining, ties) in enumerate(joinings):
        free = free_of(circuit, ties)
        new = dict(zip(reversed(free), [f"{'qjkzyx'[k]}{letter}q" for letter in "abcdefghijklmnop"]))
        called.append((joining, [(part, new.get(plus, plus), new.get(less, less)) for part, plus, less in ties]))
    return Circuit(text_of(sources, parts, called))


def some_signs(dice, circuit):
    return [dice.choice((1, -1)) for _ in circuit.parts]


def turned_about(circuit, signs):
    """The circuit with both ends exchanged everywhere of the parts that have the sign -1."""
    sources, parts, joinings = parted(circuit)
    sign = dict(zip([name for name, _ in parts], signs))
    turned = []
    for joining, ties in joinings:
        turned.append((joining, [tie if sign[tie[0]] == 1 else (tie[0], tie[2], tie[1]) for tie in ties]))
    return Circuit(text_of(sources, parts, turned))


def with_signs(signs, standing):
    return row(*[sign * number for sign, number in zip(signs, fractions_of(standing))])


def some_standing(dice, circuit):
    return tuple(pair(some_fraction(dice)) for _ in circuit.parts)


def all_cases(many):
    """So many circuits, each joining of each, and two standings of it: one of noughts now and then."""
    for seed in range(many):
        circuit = some_circuit(seed)
        dice = random.Random(1000 + seed)
        for joining, ties in circuit.joinings:
            yield circuit, joining, ties, some_standing(dice, circuit)
        yield circuit, joining, ties, row(*[0] * len(circuit))


def given_of(circuit):
    given = {"gnd": Fraction(0)}
    given.update({name: Fraction(*voltage) for name, voltage in circuit.sources})
    return given


def free_of(circuit, ties):
    given = given_of(circuit)
    return sorted({end for _, plus, minus in ties for end in (plus, minus) if end not in given})


def spread_potentials(circuit, ties, standing):
    """Potentials found by going along the ties, or None if the standing does not fit."""
    voltage = dict(zip([name for name, _ in circuit.parts], fractions_of(standing)))
    potential = given_of(circuit)
    for start in [None] + free_of(circuit, ties):
        if start is not None:
            potential.setdefault(start, Fraction(0))
        for _ in ties:
            for part, plus, minus in ties:
                if plus in potential:
                    potential.setdefault(minus, potential[plus] - voltage[part])
                if minus in potential:
                    potential.setdefault(plus, potential[minus] + voltage[part])
    for part, plus, minus in ties:
        if potential[plus] - potential[minus] != voltage[part]:
            return None
    return potential


def standing_that_fits(dice, circuit, ties):
    """A standing made of potentials taken at random."""
    potential = given_of(circuit)
    potential.update({end: some_fraction(dice) for end in free_of(circuit, ties)})
    voltage = {part: potential[plus] - potential[minus] for part, plus, minus in ties}
    return tuple(pair(voltage.get(name, some_fraction(dice))) for name, _ in circuit.parts)


def came_to_junctions(circuit, ties, charges):
    """What came to each junction, by name, when these charges came to the parts."""
    came = {end: Fraction(0) for end in list(given_of(circuit)) + free_of(circuit, ties)}
    charge = dict(zip([name for name, _ in circuit.parts], charges))
    for part, plus, minus in ties:
        came[plus] += charge[part]
        came[minus] -= charge[part]
    return came


def charges_between(circuit, ahead, behind):
    sizes = [Fraction(*size) for _, size in circuit.parts]
    steps = zip(sizes, fractions_of(ahead), fractions_of(behind))
    return [size * (new - old) for size, old, new in steps]


def square_of(circuit, numbers):
    return sum(Fraction(*size) * number * number for (_, size), number in zip(circuit.parts, numbers))


def square_between(circuit, one, other):
    return square_of(circuit, [a - b for a, b in zip(fractions_of(one), fractions_of(other))])


def is_told_fraction(value):
    """Whether the value is a fraction as the program has to tell it."""
    if type(value) is not tuple or [type(number) for number in value] != [int, int]:
        return False
    return value[1] > 0 and pair(Fraction(*value)) == value


SMALL = "circuit\npart a 1\njoining j"


def any_values(circuit, *words):
    """Values of any kind that can be handed in as value; among them such with these words."""
    simple = [0, 1, -1, 2, True, False, None, "", "alike", "unlike", "gnd", (), [], {}, circuit, ValueError(1)]
    simple += list(words) or ["rest", "lot", "kept", "changed", "one", "apart", "fixed", "hangs"]
    simple += [Bench(SMALL, ((0, 1),)), Desk("bench 0\n" + SMALL)]
    nested = [(value,) for value in simple] + [[value] for value in simple]
    nested += [("alike", value) for value in simple] + [("unlike", value) for value in simple]
    nested += [("unlike", ((0, 1),)), ("unlike", [(0, 1)]), (("m", (0, 1)),), {"m": (0, 1)}, ("alike", "alike")]
    nested += [((("m", (0, 1)),),), [("m", (0, 1))], ("m", (0, 1)), ((("m",), (0, 1)),), {("alike",): 1}]
    nested += [(word, value) for word in words for value in simple]
    return simple + nested + [(word, value, value) for word in words for value in simple]


def bent(value, circuit):
    """Values that are the right one but for one place, at any depth, where something has another form or kind."""
    yield from [[value], {0: value}, circuit] + ([] if value is None else [None])
    if isinstance(value, tuple):
        yield from [list(value), value + (None,), (value,), dict(enumerate(value))]
        if value:
            yield from [value[:-1], value + value[-1:]]
        if len(value) == 2 and isinstance(value[0], int):
            yield from bent_fractions(*value)
        for at, item in enumerate(value):
            for other in bent(item, circuit):
                yield value[:at] + (other,) + value[at + 1:]
    elif isinstance(value, str):
        yield from [value + "s", value.upper(), "", (value,), 0, True]
    else:
        yield from [str(value), (value,), True, False]


def bent_fractions(top, bottom):
    yield from [(2 * top, 2 * bottom), (-top, -bottom), (top, 0), (top, -bottom), (top, bottom, 1), (top,), top]


NO_FRACTIONS = [
    0, 1, True, None, "1", "1/2", (), (1,), (1, 2, 3), [1, 2], (2, 4), (0, 2), (1, 0), (0, 0), (1, -1), (-1, -2),
    (True, 1), (1, True), (False, True), (1, "2"), ("1", 2), ((1, 1), 1), (None, 1), (1, None), {}, ((1, 1),),
]

BELOW_NOUGHT = [(-1, 1), (-1, 2), (-10 ** 12 + 1, 7)]

# Of a circuit of two parts.
NO_ROWS_OF_TWO = [
    None, 0, True, "", "ab", (), row(1), row(1, 1, 1), list(row(1, 1)), ([1, 1], (1, 1)), (1, 1), {},
    Circuit("circuit\npart a 1\npart b 1\njoining j"),
] + [((1, 1), value) for value in NO_FRACTIONS] + [(value, (1, 1)) for value in NO_FRACTIONS]


def wrong_scripts(joining, circuit):
    """What is no script, with the number to be told, of a circuit with this joining, but with none called x."""
    for script in (None, 0, True, "", joining, [joining], [], {}, {joining: 1}, circuit):
        yield script, None
    for script in ((joining,) * 41, (None,) * 41, (joining,) * 100):
        yield script, None
    no_names = ["x", "gnd", "", joining.upper(), joining + " ", None, 0, 1, True, (), (joining,), [joining], {}]
    for name in no_names + [circuit] + [told for told, _ in circuit.sources + circuit.parts]:
        yield (name,), 0
        yield (joining, name, joining, "x"), 1
        yield (joining,) * 39 + (name,), 39


class Refusing(unittest.TestCase):
    """A case of tests that also asks for an error with the very value that it has to tell."""

    def refused(self, error, value, function, *told):
        with self.assertRaises(error) as caught:
            function(*told)
        self.assertIs(type(caught.exception), error)
        self.assertIs(caught.exception.value, value)

    def refused_as_told(self, error, value, function, *told):
        """The same where the value is not one that was handed in, but equal to it."""
        with self.assertRaises(error) as caught:
            function(*told)
        self.assertIs(type(caught.exception), error)
        self.assertEqual(caught.exception.value, value)
        self.assertIs(type(caught.exception.value), type(value))

    def refused_values(self, right, circuit, function, *told):
        """Takes the right value, and refuses each bent one."""
        self.assertIs(function(*told, right), True)
        for value in bent(right, circuit):
            self.assertIs(function(*told, value), False, value)
