"""Section 8: scripts of joinings; section 3 (b) and (d); section 2 where it tells of scripts."""

import random
import unittest
from fractions import Fraction

from chargeturns.circuits import Circuit, grounded
from chargeturns.errors import BadScript, BadStanding
from chargeturns.joinings import joined, lost
from chargeturns.rests import any_rest
from chargeturns.scripts import apart, behind, losses, run
from tests.making import (
    NO_ROWS_OF_TWO, Refusing, called_otherwise, circuits_of_both_kinds, fractions_of, is_told_fraction, pair, row,
    some_script, some_signs, some_standing, square_between, turned_about, with_signs, wrong_scripts,
)
from tests.reckoning import along, does_fit_all

PUMP = Circuit("\n".join([
    "circuit", "source e 6", "part a 1", "part b 2", "joining up", "tie a e gnd",
    "joining share", "tie a p gnd", "tie b p gnd", "joining idle",
]))
EMPTY, FULL = row(0, 0), row(6, 6)


def cases(many):
    """Circuits with a dice, a script of theirs, and a standing of theirs."""
    for circuit in circuits_of_both_kinds(many):
        dice = random.Random(len(circuit.text))
        yield circuit, dice, some_script(dice, circuit, dice.randint(0, 8)), some_standing(dice, circuit)


class Run(unittest.TestCase):
    def test_by_hand(self):
        self.assertEqual(run(PUMP, ("up", "share", "idle"), row(0, 9)), (row(0, 9), row(6, 9), row(8, 8), row(8, 8)))
        self.assertEqual(behind(PUMP, ("up", "share", "idle"), row(0, 9)), row(8, 8))
        self.assertEqual(losses(PUMP, ("up", "share", "idle"), row(0, 9)), ((36, 1), (6, 1), (0, 1)))

    def test_of_no_joinings(self):
        for circuit, dice, _, start in cases(20):
            self.assertEqual(behind(circuit, (), start), start)
            self.assertEqual(run(circuit, (), start), (start,))
            self.assertEqual(losses(circuit, (), start), ())
            other = some_standing(dice, circuit)
            self.assertEqual(apart(circuit, (), start, other), (pair(square_between(circuit, start, other)),))

    def test_joining_by_joining(self):
        for circuit, _, script, start in cases(120):
            standings = [start]
            for joining in script:
                standings.append(joined(circuit, joining, standings[-1]))
            self.assertEqual(run(circuit, script, start), tuple(standings))
            self.assertEqual(behind(circuit, script, start), standings[-1])
            told = losses(circuit, script, start)
            self.assertEqual(told, tuple(lost(circuit, *step) for step in zip(script, standings)))
            self.assertTrue(all(is_told_fraction(number) for number in told))

    def test_one_joining_twice_side_by_side(self):
        standings = (EMPTY, row(6, 0), row(6, 0), row(2, 2), row(2, 2))
        self.assertEqual(run(PUMP, ("up", "up", "share", "share"), EMPTY), standings)
        for circuit, dice, script, start in cases(60):
            twice = tuple(joining for joining in script for _ in range(2))
            self.assertEqual(behind(circuit, twice, start), behind(circuit, script, start))
            self.assertEqual(losses(circuit, twice, start)[1::2], ((0, 1),) * len(script))

    def test_joined_scripts_lead_on(self):
        for circuit, dice, script, start in cases(80):
            other = some_script(dice, circuit, dice.randint(0, 6))
            first = run(circuit, script, start)
            self.assertEqual(run(circuit, script + other, start), first + run(circuit, other, first[-1])[1:])
            both = losses(circuit, script, start) + losses(circuit, other, first[-1])
            self.assertEqual(losses(circuit, script + other, start), both)

    def test_40_joinings(self):
        script = ("up", "share") * 20
        standings = run(PUMP, script, EMPTY)
        self.assertEqual(len(standings), 41)
        # Each round leaves two thirds of what lacked.
        self.assertEqual(standings[-1], row(*[6 - 6 * Fraction(2, 3) ** 20] * 2))
        self.assertEqual(len(losses(PUMP, script, EMPTY)), 40)
        self.assertEqual(len(apart(PUMP, script, EMPTY, FULL)), 41)

    def test_what_was_told_handed_in_again(self):
        for circuit in circuits_of_both_kinds(30):
            dice = random.Random(len(circuit.text))
            start = some_standing(dice, circuit)
            for _ in range(3):
                script = some_script(dice, circuit, 40)
                after = behind(circuit, script, start)
                self.assertEqual(square_between(circuit, after, start), Fraction(*apart(circuit, (), after, start)[0]))
                self.assertEqual(losses(circuit, script[-1:], after), ((0, 1),))
                start = after
        self.assertGreater(max(len(str(number)) for number in self.great_standing()[0]), 150)

    def great_standing(self):
        """A standing behind 40 joinings whose numbers are great."""
        lines = ["circuit", "source e 1", "part a 997", "part b 991/983", "part c 977", "joining up", "tie a e gnd"]
        lines += ["joining ab", "tie a x gnd", "tie b x gnd", "joining bc", "tie b y gnd", "tie c y gnd"]
        return behind(Circuit("\n".join(lines)), ("up", "ab", "bc", "ab") * 10, row(0, 0, 0))


class Apart(unittest.TestCase):
    def test_by_hand(self):
        self.assertEqual(apart(PUMP, ("up", "share", "up"), EMPTY, FULL), ((108, 1), (72, 1), (48, 1), (32, 1)))
        self.assertEqual(apart(PUMP, ("share", "share"), EMPTY, row(3, 0)), ((9, 1), (3, 1), (3, 1)))

    def test_never_farther(self):
        for circuit, dice, script, start in cases(160):
            other = some_standing(dice, circuit)
            told = apart(circuit, script, start, other)
            ways = zip(run(circuit, script, start), run(circuit, script, other))
            self.assertEqual(told, tuple(pair(square_between(circuit, *way)) for way in ways))
            self.assertTrue(all(is_told_fraction(number) for number in told))
            squares = fractions_of(told)
            self.assertEqual(squares, sorted(squares, reverse=True))
            self.assertEqual(apart(circuit, script, other, start), told)
            self.assertEqual(apart(circuit, script, start, start), ((0, 1),) * (len(script) + 1))
            # What the sources have does not matter to the squares apart.
            self.assertEqual(apart(grounded(circuit), script, start, other), told)

    def test_from_a_standing_that_fits_by_what_is_lost(self):
        many = 0
        for circuit, dice, script, start in cases(160):
            told = any_rest(circuit)
            if told[0] == "rest":
                many += 1
                self.assertTrue(does_fit_all(circuit, script, told[1]))
                self.assertEqual(run(circuit, script, told[1]), (told[1],) * (len(script) + 1))
                squares = fractions_of(apart(circuit, script, start, told[1]))
                falls = [ahead - after for ahead, after in zip(squares, squares[1:])]
                self.assertEqual(falls, fractions_of(losses(circuit, script, start)))
        self.assertGreater(many, 100)


class AllScripts(unittest.TestCase):
    def test_straight_lines_stay_straight(self):
        for circuit, dice, script, start in cases(120):
            other, factor = some_standing(dice, circuit), Fraction(dice.randint(-9, 9), dice.randint(1, 4))
            ends = [behind(circuit, script, start), behind(circuit, script, other)]
            self.assertEqual(behind(circuit, script, along(start, other, factor)), along(*ends, factor))

    def test_free_junctions_called_otherwise_and_parts_turned_about(self):
        for circuit, dice, script, start in cases(80):
            signs = some_signs(dice, circuit)
            called, turned = called_otherwise(circuit), turned_about(circuit, signs)
            standings = run(circuit, script, start)
            self.assertEqual(run(called, script, start), standings)
            signed = tuple(with_signs(signs, standing) for standing in standings)
            self.assertEqual(run(turned, script, with_signs(signs, start)), signed)
            self.assertEqual(losses(turned, script, with_signs(signs, start)), losses(circuit, script, start))


class Wrong(Refusing):
    def calls(self, script, standing):
        return [(function, PUMP, script, standing) for function in (behind, run, losses)]

    def test_bad_script(self):
        for standing in (EMPTY, None):
            for script, number in wrong_scripts("up", PUMP):
                for call in self.calls(script, standing) + [(apart, PUMP, script, standing, None)]:
                    self.refused_as_told(BadScript, number, *call)

    def test_bad_standing(self):
        for value in NO_ROWS_OF_TWO:
            for script in ((), ("up", "share")):
                for call in self.calls(script, value):
                    self.refused(BadStanding, value, *call)
                self.refused(BadStanding, value, apart, PUMP, script, value, EMPTY)
                self.refused(BadStanding, value, apart, PUMP, script, EMPTY, value)
        self.refused(BadStanding, "one", apart, PUMP, ("up",), "one", "other")

    def test_by_name(self):
        self.assertEqual(behind(standing=EMPTY, script=("up",), circuit=PUMP), row(6, 0))
        self.assertEqual(run(standing=EMPTY, script=("up",), circuit=PUMP), (EMPTY, row(6, 0)))
        self.assertEqual(losses(standing=EMPTY, script=("up",), circuit=PUMP), ((36, 1),))
        self.assertEqual(apart(other=FULL, one=EMPTY, script=("up",), circuit=PUMP), ((108, 1), (72, 1)))

    def test_nothing_changes(self):
        told = (PUMP.text, PUMP.sources, PUMP.parts, PUMP.joinings)
        self.refused_as_told(BadScript, 2, run, PUMP, ("up", "share", "x"), EMPTY)
        self.assertEqual(run(PUMP, ("up", "share"), EMPTY), run(Circuit(PUMP.text), ("up", "share"), EMPTY))
        self.assertEqual((PUMP.text, PUMP.sources, PUMP.parts, PUMP.joinings), told)


if __name__ == "__main__":
    unittest.main()
