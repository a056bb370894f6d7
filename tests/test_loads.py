"""Section 13: loads; section 3 (g) where it tells of loads."""

import random
import unittest
from fractions import Fraction

from chargeturns.circuits import Circuit, grounded
from chargeturns.cycles import cycle, own_kept
from chargeturns.errors import BadCharge, BadLoad, BadScript, BadStanding, Drains, Empty, Floats, NoJoining, NoJunction
from chargeturns.joinings import joined
from chargeturns.loads import loaded, loaded_cycle, slope
from chargeturns.scripts import behind
from chargeturns.sums import sum_of
from tests.making import (
    NO_FRACTIONS, NO_ROWS_OF_TWO, Refusing, called_otherwise, came_to_junctions, charges_between,
    circuits_of_both_kinds, fractions_of, free_of, given_of, is_told_fraction, pair, row, some_fraction, some_script,
    some_sharing, some_signs, some_standing, spread_potentials, square_between, turned_about, with_signs, wrong_scripts,
)
from tests.reckoning import along, is_direction, ties_named

PUMP = Circuit("\n".join([
    "circuit", "source in 1", "part a 1", "part b 3", "joining load", "tie a in gnd",
    "joining pour", "tie a x gnd", "tie b x gnd", "joining loose", "tie a y z", "tie b u in", "joining idle",
]))
TURN = ("load", "pour")


def some_circuits(many):
    circuits = circuits_of_both_kinds(many) + [some_sharing(seed) for seed in range(many)]
    for at, circuit in enumerate(circuits):
        yield circuit, random.Random(at)


def junctions_of(circuit, joining):
    return list(given_of(circuit)) + free_of(circuit, ties_named(circuit, joining))


def does_hang(circuit, joining, junction):
    """By ends that are put together tie by tie."""
    ties, group = ties_named(circuit, joining), {end: end for end in junctions_of(circuit, joining)}
    for _, plus, less in ties:
        one, other = group[plus], group[less]
        group = {end: other if told == one else told for end, told in group.items()}
    return any(group[end] == group[junction] for end in given_of(circuit))


def hanging(circuit, joining):
    return [end for end in junctions_of(circuit, joining) if does_hang(circuit, joining, end)]


def is_free(circuit, junction):
    return junction not in given_of(circuit)


def cases(many):
    """Circuits with a dice, a script, and the number and the junction of a load that hangs."""
    for circuit, dice in some_circuits(many):
        script = some_script(dice, circuit, dice.randint(1, 7))
        for _ in range(2):
            number = dice.randrange(len(script))
            free = [end for end in hanging(circuit, script[number]) if is_free(circuit, end)]
            yield circuit, dice, script, number, dice.choice(free or hanging(circuit, script[number]))


def potential_in(circuit, joining, junction, standing):
    return spread_potentials(circuit, ties_named(circuit, joining), standing)[junction]


def led(circuit, script, load, standing):
    """All standings of a round with the load, joining by joining."""
    number, junction, charge = load
    standings = [standing]
    for at, joining in enumerate(script):
        if at == number:
            standings.append(loaded(circuit, joining, junction, charge, standings[-1]))
        else:
            standings.append(joined(circuit, joining, standings[-1]))
    return standings


class Loaded(unittest.TestCase):
    def test_by_hand(self):
        start = row(1, 0)
        self.assertEqual(loaded(PUMP, "pour", "x", (1, 1), start), row(0, 0))
        self.assertEqual(loaded(PUMP, "pour", "x", (-1, 1), start), row("1/2", "1/2"))
        self.assertEqual(loaded(PUMP, "pour", "x", (5, 1), start), row(-1, -1))
        self.assertEqual(loaded(PUMP, "loose", "u", (3, 1), start), row(1, -1))
        self.assertEqual(loaded(PUMP, "loose", "u", (0, 1), start), row(1, 0))
        for joining in ("load", "pour", "loose", "idle"):
            for junction in ("gnd", "in"):
                self.assertEqual(loaded(PUMP, joining, junction, (5, 1), start), joined(PUMP, joining, start))

    def test_in_a_row(self):
        # b's minus end and a's plus end meet at m; less 6 comes to m: 1 * a - 2 * b = -6, and a + b = 3.
        circuit = Circuit("circuit\nsource s 3\npart a 1\npart b 2\npart c 1\njoining row\ntie a m gnd\ntie b s m")
        self.assertEqual(loaded(circuit, "row", "m", (6, 1), row(0, 0, 7)), row(0, 3, 7))
        # At a loose end less charge comes to its only part.
        circuit = Circuit("circuit\npart a 2\njoining j\ntie a gnd p")
        self.assertEqual(loaded(circuit, "j", "p", (6, 1), row(5)), row(8))

    def test_over_many_circuits(self):
        free, floating = 0, 0
        for circuit, dice in some_circuits(60):
            for joining, ties in circuit.joinings:
                start = some_standing(dice, circuit)
                for junction in junctions_of(circuit, joining):
                    charge = pair(some_fraction(dice))
                    if does_hang(circuit, joining, junction):
                        free += is_free(circuit, junction)
                        self.check(circuit, joining, junction, charge, start)
                    else:
                        floating += 1
                        self.assertRaises(Floats, loaded, circuit, joining, junction, charge, start)
        self.assertTrue(free > 300 and floating > 300)

    def check(self, circuit, joining, junction, charge, start):
        told, ties = loaded(circuit, joining, junction, charge, start), ties_named(circuit, joining)
        self.assertTrue(type(told) is tuple and all(is_told_fraction(number) for number in told))
        self.assertIsNotNone(spread_potentials(circuit, ties, told))
        came = came_to_junctions(circuit, ties, charges_between(circuit, start, told))
        for end in free_of(circuit, ties):
            self.assertEqual(came[end], -Fraction(*charge) if end == junction else 0)
        tied = [part for part, _, _ in ties]
        for (part, _), ahead, after in zip(circuit.parts, start, told):
            self.assertTrue(part in tied or ahead == after)
        if not is_free(circuit, junction) or charge == (0, 1):
            self.assertEqual(told, joined(circuit, joining, start))
        self.assertEqual(loaded(Circuit(circuit.text), joining, junction, charge, start), told)
        self.assertEqual(loaded(circuit, joining, junction, (0, 1), start), joined(circuit, joining, start))

    def test_charges_add_up(self):
        for circuit, dice, script, number, junction in cases(50):
            joining, start = script[number], some_standing(dice, circuit)
            none, one = (loaded(circuit, joining, junction, (charge, 1), start) for charge in (0, 1))
            for charge in (Fraction(-7, 3), Fraction(2), Fraction(1, 9)):
                told = loaded(circuit, joining, junction, pair(charge), start)
                self.assertEqual(told, along(none, one, charge))

    def test_called_otherwise_and_turned_about(self):
        for circuit, dice, script, number, junction in cases(40):
            joining, start, charge = script[number], some_standing(dice, circuit), pair(some_fraction(dice))
            told, signs = loaded(circuit, joining, junction, charge, start), some_signs(dice, circuit)
            turned = turned_about(circuit, signs)
            signed = loaded(turned, joining, junction, charge, with_signs(signs, start))
            self.assertEqual(signed, with_signs(signs, told))
            called = called_otherwise(circuit)
            # The same tie tells by what name the junction goes now.
            ends = zip(ties_named(circuit, joining), ties_named(called, joining))
            new = {a: b for old, tie in ends for a, b in zip(old[1:], tie[1:])}
            self.assertEqual(loaded(called, joining, new.get(junction, junction), charge, start), told)


class LoadedCycle(unittest.TestCase):
    def test_by_hand(self):
        start = row(1, 0)
        self.assertEqual(loaded_cycle(PUMP, TURN, (1, "x", (0, 1)), start), ("cycle", (row(1, 1), row(1, 1))))
        self.assertEqual(loaded_cycle(PUMP, TURN, (1, "x", (1, 1)), start), ("cycle", (row(0, 0), row(1, 0))))
        self.assertEqual(loaded_cycle(PUMP, TURN, (1, "x", (-2, 1)), start), ("cycle", (row(3, 3), row(1, 3))))
        told = loaded_cycle(PUMP, ("pour",), (0, "x", (1, 1)), start)
        self.assertEqual(told, ("drains", row(1, 1)))
        self.assertEqual(loaded_cycle(PUMP, ("pour",), (0, "x", (0, 1)), start), ("cycle", (row("1/4", "1/4"),)))
        self.assertEqual(loaded_cycle(PUMP, ("pour",), (0, "in", (4, 1)), start), ("cycle", (row("1/4", "1/4"),)))
        self.assertEqual(loaded_cycle(PUMP, ("idle",), (0, "gnd", (4, 1)), start), ("cycle", (start,)))

    def test_over_many_circuits(self):
        answers = []
        for circuit, dice, script, number, junction in cases(80):
            start = some_standing(dice, circuit)
            for charge in (pair(some_fraction(dice)), (0, 1), (1, 1)):
                told = loaded_cycle(circuit, script, (number, junction, charge), start)
                answers.append(told[0])
                self.assertEqual(loaded_cycle(Circuit(circuit.text), script, (number, junction, charge), start), told)
                self.check(circuit, script, (number, junction, charge), start, told)
        self.assertGreater(answers.count("cycle"), 400)
        self.assertGreater(answers.count("drains"), 60)

    def check(self, circuit, script, load, start, told):
        number, junction, charge = load
        kept, flat = own_kept(circuit, script), grounded(circuit)
        drained = [numbers for numbers in kept if potential_in(flat, script[number], junction, numbers) != 0]
        self.assertIs(told[0] == "cycle", not drained or charge == (0, 1))
        self.assertEqual(len(told), 2)
        if told[0] == "drains":
            self.assertTrue(all(is_direction(circuit, joining, told[1]) for joining in script))
            self.assertNotEqual(potential_in(flat, script[number], junction, told[1]), 0)
            return
        standings = led(circuit, script, load, told[1][0])
        self.assertEqual(told[1] + told[1][:1], tuple(standings))
        for standing in told[1]:
            for numbers in kept:
                self.assertEqual(sum_of(circuit, numbers, standing), sum_of(circuit, numbers, start))
        if charge == (0, 1) or not is_free(circuit, junction):
            self.assertEqual(told[1], cycle(circuit, script, start))

    def test_what_is_lost_in_a_round(self):
        many = 0
        for circuit, dice, script, number, junction in cases(80):
            charge = some_fraction(dice)
            told = loaded_cycle(circuit, script, (number, junction, pair(charge)), some_standing(dice, circuit))
            if told[0] == "cycle" and is_free(circuit, junction):
                many += charge != 0
                standings, given = told[1] + told[1][:1], Fraction(0)
                for joining, ahead, after in zip(script, standings, standings[1:]):
                    came = came_to_junctions(circuit, ties_named(circuit, joining), charges_between(circuit, ahead, after))
                    given += sum(came[end] * voltage for end, voltage in given_of(circuit).items())
                lost = sum(square_between(circuit, *way) for way in zip(standings, standings[1:]))
                potential = potential_in(circuit, script[number], junction, standings[number + 1])
                self.assertEqual(lost, 2 * given - 2 * charge * potential)
        self.assertGreater(many, 60)

    def test_drained_sums_fall_at_each_round(self):
        many = 0
        for circuit, dice, script, number, junction in cases(60):
            start, charge = some_standing(dice, circuit), some_fraction(dice) or Fraction(1)
            told = loaded_cycle(circuit, script, (number, junction, pair(charge)), start)
            if told[0] == "drains":
                many += 1
                potential = potential_in(grounded(circuit), script[number], junction, told[1])
                after = led(circuit, script, (number, junction, pair(charge)), start)[-1]
                sums = [Fraction(*sum_of(circuit, told[1], standing)) for standing in (start, after)]
                self.assertEqual(sums[1] - sums[0], -charge * potential)
        self.assertGreater(many, 30)

    def test_rounds_lead_nearer(self):
        for circuit, dice, script, number, junction in cases(30):
            start, load = some_standing(dice, circuit), (number, junction, pair(some_fraction(dice)))
            told = loaded_cycle(circuit, script, load, start)
            if told[0] == "cycle":
                squares = []
                for _ in range(4):
                    squares.append(square_between(circuit, start, told[1][0]))
                    start = led(circuit, script, load, start)[-1]
                self.assertEqual(squares, sorted(squares, reverse=True))
                self.assertTrue(squares[-1] < squares[0] or squares[0] == 0)

    def test_a_joining_that_stands_in_the_script_again(self):
        script, start = ("load", "pour", "load", "pour"), row(4, 4)
        ends = [loaded_cycle(PUMP, script, (number, "x", (1, 1)), start)[1] for number in (1, 3)]
        self.assertEqual(ends[0], ends[1][2:] + ends[1][:2])
        self.assertNotEqual(ends[0], ends[1])
        # Each time it is as in two rounds one of which goes without a load.
        self.assertEqual(led(PUMP, script, (1, "x", (1, 1)), ends[0][0])[-1], ends[0][0])
        self.assertEqual(loaded_cycle(PUMP, ("pour", "pour"), (1, "x", (1, 1)), start), ("drains", row(1, 1)))

    def test_40_joinings_and_great_numbers(self):
        for circuit, dice in some_circuits(6):
            script = some_script(dice, circuit, 40)
            junction = hanging(circuit, script[39])[-1]
            start = behind(circuit, script, some_standing(dice, circuit))
            great = row(*[number * Fraction(10 ** 400 + 1, 7 ** 300) for number in fractions_of(start)])
            for charge in ((1, 1), pair(Fraction(10 ** 950 + 1, 3 ** 900))):
                told = loaded_cycle(circuit, script, (39, junction, charge), great)
                self.check(circuit, script, (39, junction, charge), great, told)


class Slope(Refusing):
    def test_by_hand(self):
        self.assertEqual(slope(PUMP, TURN, 1, "x"), (1, 1))
        self.assertEqual([slope(PUMP, TURN, 0, "in"), slope(PUMP, TURN, 1, "gnd")], [(0, 1), (0, 1)])
        script = ("load", "pour", "load", "pour")
        self.assertEqual([slope(PUMP, script, 1, "x"), slope(PUMP, script, 3, "x")], [(4, 7), (4, 7)])
        # A loose end: its only part alone, which nothing else moves, is drained.
        self.refused_as_told(Drains, row(0, 1), slope, PUMP, ("load", "loose"), 1, "u")
        self.assertEqual(slope(PUMP, ("load", "loose"), 1, "in"), (0, 1))

    def test_over_many_circuits(self):
        slopes, drained = [], 0
        for circuit, dice, script, number, junction in cases(80):
            start = some_standing(dice, circuit)
            ends = [loaded_cycle(circuit, script, (number, junction, (charge, 1)), start) for charge in (0, 1)]
            if ends[1][0] == "drains":
                drained += 1
                self.refused_as_told(Drains, ends[1][1], slope, circuit, script, number, junction)
                continue
            told = slope(circuit, script, number, junction)
            slopes.append(told)
            self.assertTrue(is_told_fraction(told) and told[0] >= 0)
            self.assertEqual(slope(Circuit(circuit.text), script, number, junction), told)
            self.check(circuit, script, number, junction, start, Fraction(*told))
        self.assertGreater(len([told for told in slopes if told != (0, 1)]), 60)
        self.assertGreater(drained, 30)

    def check(self, circuit, script, number, junction, start, told):
        potentials = []
        for charge in (Fraction(0), Fraction(1), Fraction(-7, 2), Fraction(22, 7)):
            standings = loaded_cycle(circuit, script, (number, junction, pair(charge)), start)[1]
            after = (standings + standings[:1])[number + 1]
            potentials.append(potential_in(circuit, script[number], junction, after))
            self.assertEqual(potentials[-1], potentials[0] - charge * told)
        flat = grounded(circuit)
        standings = led(flat, script, (number, junction, (1, 1)), self.first(flat, script, number, junction))
        lost = sum(square_between(circuit, *way) for way in zip(standings, standings[1:]))
        self.assertEqual(told, lost / 2 if is_free(circuit, junction) else 0)

    def first(self, flat, script, number, junction):
        return loaded_cycle(flat, script, (number, junction, (1, 1)), row(*[0] * len(flat)))[1][0]

    def test_sources_do_not_matter(self):
        for circuit, _, script, number, junction in cases(30):
            try:
                told = slope(circuit, script, number, junction)
            except Drains as drained:
                self.refused_as_told(Drains, drained.value, slope, grounded(circuit), script, number, junction)
            else:
                self.assertEqual(slope(grounded(circuit), script, number, junction), told)


class Wrong(Refusing):
    start = row(1, 0)

    def test_no_joining(self):
        for value in ("x", "", "gnd", "in", "a", None, 0, True, (), ("pour",), ["pour"], {}, PUMP):
            for others in (("x", (1, 1), self.start), (None, None, None)):
                self.refused(NoJoining, value, loaded, PUMP, value, *others)

    def test_no_junction(self):
        wrong = ["y", "", "a", "pour", "X", "gnd ", None, 0, 1, True, (), ("x",), ["x"], {}, PUMP]
        for value in wrong:
            for others in (((1, 1), self.start), (None, None)):
                self.refused(NoJunction, value, loaded, PUMP, "pour", value, *others)
        for joining in ("load", "idle", "loose"):
            self.refused(NoJunction, "x", loaded, PUMP, joining, "x", (1, 1), self.start)

    def test_bad_charge_then_bad_standing_then_floats(self):
        for value in NO_FRACTIONS + [PUMP, "in"]:
            for standing in (self.start, None):
                self.refused(BadCharge, value, loaded, PUMP, "pour", "x", value, standing)
                self.refused(BadCharge, value, loaded, PUMP, "loose", "y", value, standing)
        for value in NO_ROWS_OF_TWO:
            for joining, junction in (("pour", "x"), ("loose", "y"), ("idle", "gnd")):
                self.refused(BadStanding, value, loaded, PUMP, joining, junction, (1, 1), value)
        for junction in ("y", "z"):
            for charge in ((1, 1), (0, 1), (-3, 7)):
                self.refused(Floats, junction, loaded, PUMP, "loose", junction, charge, self.start)

    def bad_loads(self):
        yield from [None, 0, True, "", "x", [1, "x", (1, 1)], {}, (), (1,), (1, "x"), (1, "x", (1, 1), 0), PUMP]
        yield from [("1", "x", (1, 1)), (True, "x", (1, 1)), (None, "x", (1, 1)), ((1, 1), "x", (1, 1))]
        yield from [(2, "x", (1, 1)), (-1, "x", (1, 1)), (0, "x", (1, 1)), (1, "y", (1, 1)), (1, None, (1, 1))]
        yield from [(1, 0, (1, 1)), (1, ["x"], (1, 1)), ("pour", "x", (1, 1)), (False, "gnd", (1, 1))]
        yield from [(1, "x", value) for value in NO_FRACTIONS]

    def test_loaded_cycle(self):
        for script, number in wrong_scripts("pour", PUMP):
            for others in (((0, "x", (1, 1)), self.start), (None, None)):
                self.refused_as_told(BadScript, number, loaded_cycle, PUMP, script, *others)
        for others in (((0, "x", (1, 1)), self.start), (None, None)):
            self.refused_as_told(Empty, None, loaded_cycle, PUMP, (), *others)
        for load in self.bad_loads():
            for standing in (self.start, None):
                self.refused(BadLoad, load, loaded_cycle, PUMP, TURN, load, standing)
        for value in NO_ROWS_OF_TWO:
            self.refused(BadStanding, value, loaded_cycle, PUMP, TURN, (1, "x", (1, 1)), value)
            self.refused(BadStanding, value, loaded_cycle, PUMP, ("loose",), (0, "y", (1, 1)), value)
        for charge in ((1, 1), (0, 1)):
            self.refused(Floats, "z", loaded_cycle, PUMP, ("pour", "loose"), (1, "z", charge), self.start)

    def test_slope(self):
        for script, number in wrong_scripts("pour", PUMP):
            for others in ((0, "x"), (None, None)):
                self.refused_as_told(BadScript, number, slope, PUMP, script, *others)
        for others in ((0, "x"), (None, None)):
            self.refused_as_told(Empty, None, slope, PUMP, (), *others)
        wrong = [("1", "x"), (True, "x"), (None, "x"), (2, "x"), (-1, "x"), (0, "x"), (1, "y"), (1, None), (1, 0)]
        for number, junction in wrong + [(1, ["x"]), ("pour", "x"), (False, "gnd"), ((1, 1), "x"), ([], {}), (PUMP, PUMP)]:
            self.refused_as_told(BadLoad, (number, junction), slope, PUMP, TURN, number, junction)
        for junction in ("y", "z"):
            self.refused(Floats, junction, slope, PUMP, ("loose", "pour"), 0, junction)
        self.refused_as_told(Drains, row(1, 1), slope, PUMP, ("pour",), 0, "x")

    def test_by_name(self):
        told = loaded(standing=self.start, charge=(1, 1), junction="x", joining="pour", circuit=PUMP)
        self.assertEqual(told, row(0, 0))
        told = loaded_cycle(standing=self.start, load=(1, "x", (1, 1)), script=TURN, circuit=PUMP)
        self.assertEqual(told, ("cycle", (row(0, 0), row(1, 0))))
        self.assertEqual(slope(junction="x", number=1, script=TURN, circuit=PUMP), (1, 1))


if __name__ == "__main__":
    unittest.main()
