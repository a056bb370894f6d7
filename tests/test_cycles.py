"""Section 9: steady cycles; section 3 (e); section 1 where it tells of circuits without a rest."""

import random
import unittest
from fractions import Fraction

from chargeturns.circuits import Circuit, grounded
from chargeturns.cycles import cycle, lost_in_cycle, own_kept, shows_cycle, supplied
from chargeturns.errors import BadScript, BadStanding, Empty
from chargeturns.joinings import flow, joined, lost
from chargeturns.rests import any_rest, rest
from chargeturns.scripts import apart, behind, losses, run
from chargeturns.sums import directions, kept_rows, sum_of
from tests.making import (
    NO_FRACTIONS, NO_ROWS_OF_TWO, Refusing, any_values, called_otherwise, came_to_junctions,
    circuits_of_both_kinds, fractions_of, is_told_fraction, pair, row, some_script, some_signs, some_standing,
    square_between, turned_about, with_signs, wrong_scripts,
)
from tests.reckoning import (
    does_fit_all, is_direction, is_fitted_by_one, is_plain_list, many_kept_by, names_of, of_these_joinings, ties_named,
    with_kept,
)

LADLE = Circuit("\n".join([
    "circuit", "source in 3", "source low 0", "part a 1", "part b 2", "joining load", "tie a in gnd",
    "joining pour", "tie a x gnd", "tie b x gnd", "joining drain", "tie b low gnd", "joining idle",
]))
TURN = ("load", "pour", "drain")
TORN = Circuit("\n".join([
    "circuit", "source one 1", "source two 2", "part a 5", "part b 1", "joining p", "tie a one gnd",
    "joining q", "tie a two gnd",
]))


def cases(many):
    """Circuits with a dice, a script of one joining at least, and a standing."""
    for circuit in circuits_of_both_kinds(many):
        dice = random.Random(len(circuit.text))
        yield circuit, dice, some_script(dice, circuit, dice.randint(1, 8)), some_standing(dice, circuit)


def sums_of(circuit, rows, standing):
    return [sum_of(circuit, numbers, standing) for numbers in rows]


class OwnKept(unittest.TestCase):
    def test_other_joinings_do_not_count(self):
        self.assertEqual(own_kept(LADLE, TURN), ())
        self.assertEqual(own_kept(LADLE, ("load",)), (row(0, 1),))
        self.assertEqual(own_kept(LADLE, ("pour", "pour", "idle")), (row(1, 1),))
        self.assertEqual(own_kept(LADLE, ("idle",)), (row(1, 0), row(0, 1)))
        self.assertEqual(own_kept(LADLE, ("drain", "load")), ())

    def test_over_many_circuits(self):
        for circuit, dice, script, _ in cases(160):
            told = own_kept(circuit, script)
            self.assertTrue(is_plain_list(told, len(circuit)))
            self.assertTrue(all(is_told_fraction(number) for numbers in told for number in numbers))
            self.assertTrue(all(is_direction(circuit, joining, numbers) for joining in script for numbers in told))
            self.assertEqual(len(told), many_kept_by(circuit, script))
            self.assertEqual(told, kept_rows(of_these_joinings(circuit, script)))
            self.assertEqual(own_kept(circuit, script[:1]), directions(circuit, script[0]))
            self.assertEqual(own_kept(circuit, tuple(names_of(circuit))), kept_rows(circuit))


class Cycle(unittest.TestCase):
    def test_by_hand(self):
        self.assertEqual(cycle(LADLE, TURN, row(9, "-1/7")), (row(1, 0), row(3, 0), row(1, 1)))
        self.assertEqual(cycle(LADLE, ("pour",), row(3, 0)), (row(1, 1),))
        self.assertEqual(cycle(LADLE, ("idle", "idle"), row(3, "1/2")), (row(3, "1/2"),) * 2)
        self.assertEqual(cycle(LADLE, ("load", "load", "idle"), row(5, 4)), (row(3, 4),) * 3)
        self.assertEqual(cycle(TORN, ("p", "q"), row(7, "8/3")), (row(2, "8/3"), row(1, "8/3")))

    def test_comes_again_with_the_sums_of_the_start(self):
        for circuit, dice, script, start in cases(160):
            told, kept = cycle(circuit, script, start), own_kept(circuit, script)
            self.assertIs(type(told), tuple)
            self.assertEqual(len(told), len(script))
            self.assertTrue(all(is_told_fraction(number) for standing in told for number in standing))
            for joining, standing, after in zip(script, told, told[1:] + told[:1]):
                self.assertEqual(joined(circuit, joining, standing), after)
                self.assertEqual(sums_of(circuit, kept, standing), sums_of(circuit, kept, start))
            self.assertIs(shows_cycle(circuit, script, start, told), True)
            self.assertEqual(cycle(Circuit(circuit.text), script, start), told)

    def test_just_one_for_each_worth_of_the_sums(self):
        for circuit, dice, script, start in cases(120):
            told, kept = cycle(circuit, script, start), own_kept(circuit, script)
            self.assertEqual(cycle(circuit, script, behind(circuit, script, start)), told)
            self.assertEqual(cycle(circuit, script, told[0]), told)
            other = with_kept(dice, start, kept)
            same = sums_of(circuit, kept, other) == sums_of(circuit, kept, start)
            self.assertIs(cycle(circuit, script, other) == told, same)
            self.assertIs(shows_cycle(circuit, script, other, told), same)
            # Begun one joining later, it is the same cycle turned.
            turned = script[1:] + script[:1]
            self.assertEqual(cycle(circuit, turned, start), told[1:] + told[:1])

    def test_rounds_lead_nearer(self):
        for circuit, dice, script, start in cases(100):
            first = cycle(circuit, script, start)[0]
            for _ in range(3):
                squares = fractions_of(apart(circuit, script, start, first))
                self.assertEqual(squares, sorted(squares, reverse=True))
                self.assertTrue(squares[-1] < squares[0] or squares[0] == 0)
                start = behind(circuit, script, start)

    def test_near_behind_many_rounds(self):
        start, first = row(50, -20), cycle(LADLE, ("load", "pour"), row(0, 0))[0]
        self.assertEqual(first, row(3, 3))
        for _ in range(2):
            start = behind(LADLE, ("load", "pour") * 20, start)
        self.assertLess(square_between(LADLE, start, first), Fraction(1, 1000))

    def test_a_circuit_with_a_rest(self):
        many = 0
        for circuit, dice, _, start in cases(120):
            if any_rest(circuit)[0] == "rest":
                many += 1
                script = tuple(names_of(circuit) + [dice.choice(names_of(circuit))])
                self.assertEqual(cycle(circuit, script, start), (rest(circuit, start),) * len(script))
        self.assertGreater(many, 80)

    def test_joinings_that_have_a_rest_in_a_circuit_without_one(self):
        self.assertEqual(any_rest(TORN)[0], "lot")
        self.assertEqual(cycle(TORN, ("p", "p"), row(7, 3)), (row(1, 3), row(1, 3)))
        self.assertEqual([lost_in_cycle(TORN, ("p",)), lost_in_cycle(TORN, ("q", "q"))], [(0, 1), (0, 1)])
        self.assertEqual([lost_in_cycle(TORN, ("p", "q")), lost_in_cycle(TORN, ("q", "p", "p"))], [(10, 1), (10, 1)])
        self.assertEqual(supplied(TORN, ("p", "q")), (("one", (-5, 1)), ("two", (5, 1))))
        self.assertEqual(supplied(TORN, ("p",)), (("one", (0, 1)), ("two", (0, 1))))

    def test_called_otherwise_and_turned_about(self):
        for circuit, dice, script, start in cases(60):
            signs = some_signs(dice, circuit)
            called, turned = called_otherwise(circuit), turned_about(circuit, signs)
            told = cycle(circuit, script, start)
            self.assertEqual(cycle(called, script, start), told)
            signed = tuple(with_signs(signs, standing) for standing in told)
            self.assertEqual(cycle(turned, script, with_signs(signs, start)), signed)
            for other in (called, turned):
                self.assertEqual(lost_in_cycle(other, script), lost_in_cycle(circuit, script))
                self.assertEqual(supplied(other, script), supplied(circuit, script))

    def test_40_joinings_and_great_numbers(self):
        for circuit in circuits_of_both_kinds(12):
            dice = random.Random(len(circuit.text))
            script = some_script(dice, circuit, 40)
            start = behind(circuit, script, some_standing(dice, circuit))
            great = row(*[number * Fraction(10 ** 400 + 1, 7 ** 300) for number in fractions_of(start)])
            for standing in (start, great):
                told = cycle(circuit, script, standing)
                self.assertEqual(run(circuit, script, told[0]), told + told[:1])
                self.assertIs(shows_cycle(circuit, script, told[-1], told), True)


class LostAndSupplied(unittest.TestCase):
    def test_by_hand(self):
        # Load loses 2 * 2, pour 2 * 2 and 2 * 1 * 1, drain 2 * 1 * 1; in gives 2 at 3 volts.
        self.assertEqual(losses(LADLE, TURN, row(1, 0)), ((4, 1), (6, 1), (2, 1)))
        self.assertEqual(lost_in_cycle(LADLE, TURN), (12, 1))
        self.assertEqual(supplied(LADLE, TURN), (("in", (2, 1)), ("low", (-2, 1))))
        self.assertEqual(supplied(LADLE, ("load", "pour")), (("in", (0, 1)), ("low", (0, 1))))
        self.assertEqual(supplied(LADLE, TURN + TURN), (("in", (4, 1)), ("low", (-4, 1))))

    def test_what_the_joinings_lose_and_the_sources_give(self):
        for circuit, dice, script, start in cases(160):
            told = cycle(circuit, script, start)
            lost_then = sum(Fraction(*lost(circuit, *step)) for step in zip(script, told))
            given = {name: Fraction(0) for name, _ in circuit.sources}
            for joining, standing in zip(script, told):
                charges = fractions_of(flow(circuit, joining, standing))
                came = came_to_junctions(circuit, ties_named(circuit, joining), charges)
                given = {name: charge + came[name] for name, charge in given.items()}
            self.assertEqual(lost_in_cycle(circuit, script), pair(lost_then))
            self.assertEqual(supplied(circuit, script), tuple((name, pair(given[name])) for name, _ in circuit.sources))

    def test_twice_what_the_sources_give(self):
        for circuit, _, script, _ in cases(160):
            told = supplied(circuit, script)
            voltages = [Fraction(*voltage) for _, voltage in circuit.sources]
            given = sum(a * b for a, b in zip(fractions_of([charge for _, charge in told]), voltages))
            self.assertEqual(lost_in_cycle(circuit, script), pair(2 * given))

    def test_nothing_is_lost_exactly_if_one_standing_fits(self):
        answers = []
        for circuit, dice, script, start in cases(240):
            nothing = lost_in_cycle(circuit, script) == (0, 1)
            answers.append(nothing)
            self.assertIs(nothing, is_fitted_by_one(circuit, script))
            self.assertIs(nothing, any_rest(of_these_joinings(circuit, script))[0] == "rest")
            self.assertIs(nothing, does_fit_all(circuit, script, cycle(circuit, script, start)[0]))
        self.assertGreater(answers.count(True), 100)
        self.assertGreater(answers.count(False), 60)

    def test_sources_at_0_or_none(self):
        for circuit, _, script, start in cases(60):
            flat = grounded(circuit)
            self.assertEqual(lost_in_cycle(flat, script), (0, 1))
            self.assertEqual(supplied(flat, script), tuple((name, (0, 1)) for name, _ in circuit.sources))
        pair_alone = Circuit("circuit\npart a 1\npart b 1\njoining j\ntie a x gnd\ntie b x gnd")
        self.assertEqual(supplied(pair_alone, ("j",)), ())
        self.assertEqual(lost_in_cycle(pair_alone, ("j",)), (0, 1))

    def test_a_source_that_no_joining_of_the_script_names(self):
        self.assertEqual(supplied(LADLE, ("load", "pour"))[1], ("low", (0, 1)))
        for circuit, _, script, _ in cases(60):
            for name, charge in supplied(circuit, script):
                named = [end for joining in script for tie in ties_named(circuit, joining) for end in tie[1:]]
                if name not in named:
                    self.assertEqual(charge, (0, 1))


class ShowsCycle(Refusing):
    def test_wrong_forms(self):
        start = row(3, 0)
        self.refused_values((row(1, 0), row(3, 0), row(1, 1)), LADLE, shows_cycle, LADLE, TURN, start)
        self.refused_values((row(1, 1),), LADLE, shows_cycle, LADLE, ("pour",), start)
        right = cycle(LADLE, TURN, start)
        wrong = [
            right[1:] + right[:1], right[::-1], right + right[:1], right[:2], (), right * 2, ("cycle", right),
            (row(1, 0), row(3, 0), row(1, 2)), (row(1), row(3), row(1)), (row(1, 0, 0), row(3, 0, 0), row(1, 1, 0)),
        ]
        for value in wrong:
            self.assertIs(shows_cycle(LADLE, TURN, start, value), False)
        for value in NO_FRACTIONS:
            self.assertIs(shows_cycle(LADLE, ("pour",), start, (((1, 1), value),)), False)

    def test_steady_with_other_sums(self):
        for number in range(-3, 4):
            shown = shows_cycle(LADLE, ("pour", "idle"), row(3, 0), (row(number, number),) * 2)
            self.assertIs(shown, number == 1)

    def test_any_value(self):
        for circuit, _, script, start in cases(12):
            for value in any_values(circuit):
                self.assertIs(shows_cycle(circuit, script[:3], start, value), False)


class Wrong(Refusing):
    def calls(self, script, standing=row(1, 1)):
        calls = [(function, LADLE, script) for function in (own_kept, lost_in_cycle, supplied)]
        return calls + [(cycle, LADLE, script, standing), (shows_cycle, LADLE, script, standing, None)]

    def test_bad_script(self):
        for standing in (row(1, 1), None):
            for script, number in wrong_scripts("pour", LADLE):
                for call in self.calls(script, standing):
                    self.refused_as_told(BadScript, number, *call)

    def test_empty_then_bad_standing(self):
        for standing in (row(1, 1), None):
            for call in self.calls((), standing):
                self.refused_as_told(Empty, None, *call)
        for value in NO_ROWS_OF_TWO:
            self.refused(BadStanding, value, cycle, LADLE, ("pour",), value)
            self.refused(BadStanding, value, shows_cycle, LADLE, ("pour",), value, (row(1, 1),))

    def test_by_name(self):
        self.assertEqual(own_kept(script=("pour",), circuit=LADLE), (row(1, 1),))
        self.assertEqual(cycle(standing=row(3, 0), script=("pour",), circuit=LADLE), (row(1, 1),))
        shown = shows_cycle(value=(row(1, 1),), standing=row(3, 0), script=("pour",), circuit=LADLE)
        self.assertIs(shown, True)
        self.assertEqual(lost_in_cycle(script=TURN, circuit=LADLE), (12, 1))
        self.assertEqual(supplied(script=("idle",), circuit=LADLE), (("in", (0, 1)), ("low", (0, 1))))


if __name__ == "__main__":
    unittest.main()
