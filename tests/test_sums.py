"""Section 6: what is kept; section 3 (b); section 2 where it tells of rows, directions and kept rows."""

import random
import unittest
from fractions import Fraction

from chargeturns.circuits import Circuit, grounded, with_size, with_source
from chargeturns.errors import BadRow, BadStanding, NoJoining
from chargeturns.joinings import does_fit, joined
from chargeturns.scripts import behind
from chargeturns.sums import directions, is_kept, kept_rows, shows_is_kept, sum_of
from tests.making import (
    NO_FRACTIONS, NO_ROWS_OF_TWO, Refusing, any_values, called_otherwise, circuits_of_both_kinds, is_told_fraction,
    pair, row, some_circuit, some_fraction, some_script, some_signs, some_size, some_standing, turned_about,
    with_signs,
)
from tests.reckoning import is_direction, is_plain_list, many_kept_by, names_of, sum_in, with_kept

SHARE = Circuit("circuit\npart a 1\npart b 2\njoining par\ntie a x gnd\ntie b x gnd")
LIFT = Circuit("\n".join([
    "circuit", "source bat 6", "part a 1", "part b 1", "part c 4", "joining up", "tie a bat gnd",
    "joining row", "tie a x gnd", "tie b y x", "tie c y gnd",
]))


def otherwise(dice, circuit):
    """The circuit with other sizes and other voltages of all sources."""
    for name, _ in circuit.parts:
        circuit = with_size(circuit, name, pair(some_size(dice)))
    for name, _ in circuit.sources:
        circuit = with_source(circuit, name, pair(some_fraction(dice)))
    return circuit


def tied(*lines):
    return Circuit("\n".join(["circuit", "source v 5", "part a 1", "part b 2", "part c 1/3", "joining j", *lines]))


class Directions(unittest.TestCase):
    def test_of_the_document(self):
        # Behind up a has 0, b and c anything; in row c has what a and b have together.
        for p, q in ((1, 0), (0, 1), ("2/3", -4)):
            both = row(p, q, Fraction(p) + Fraction(q))
            self.assertTrue(does_fit(LIFT, "row", both))
        self.assertEqual(directions(LIFT, "up"), (row(0, 1, 0), row(0, 0, 1)))
        self.assertEqual(directions(LIFT, "row"), (row(1, 0, 1), row(0, 1, 1)))
        self.assertEqual(kept_rows(LIFT), (row(0, 1, 1),))

    def test_edges(self):
        everything = (row(1, 0, 0), row(0, 1, 0), row(0, 0, 1))
        self.assertEqual(directions(tied(), "j"), everything)
        self.assertEqual(directions(tied("tie a x y", "tie b z zz", "tie c v q"), "j"), everything)
        self.assertEqual(directions(tied("tie a v gnd", "tie b gnd v", "tie c gnd gnd"), "j"), ())
        self.assertEqual(directions(tied("tie a x x", "tie b v v"), "j"), (row(0, 0, 1),))
        self.assertEqual(directions(tied("tie c x gnd", "tie a gnd x"), "j"), (row(1, 0, -1), row(0, 1, 0)))
        self.assertEqual(directions(tied("tie a x y", "tie b y z", "tie c z x"), "j"), (row(1, 0, -1), row(0, 1, -1)))
        self.assertEqual(directions(tied("tie a v x", "tie b x y", "tie c y gnd"), "j"), (row(1, 0, -1), row(0, 1, -1)))

    def test_plain_lists_of_just_the_directions(self):
        for circuit in circuits_of_both_kinds(160):
            for joining in names_of(circuit):
                told = directions(circuit, joining)
                self.assertTrue(is_plain_list(told, len(circuit)))
                self.assertTrue(all(is_told_fraction(number) for numbers in told for number in numbers))
                self.assertTrue(all(is_direction(circuit, joining, numbers) for numbers in told))
                self.assertEqual(len(told), many_kept_by(circuit, [joining]))

    def test_rows_that_fit_when_all_sources_are_0(self):
        for circuit in circuits_of_both_kinds(60):
            flat, dice = grounded(circuit), random.Random(len(circuit.text))
            for joining in names_of(circuit):
                told = directions(circuit, joining)
                self.assertEqual(directions(flat, joining), told)
                made = with_kept(dice, row(*[0] * len(circuit)), told)
                self.assertTrue(does_fit(flat, joining, made))
                fitting = joined(circuit, joining, some_standing(dice, circuit))
                self.assertTrue(does_fit(circuit, joining, with_kept(dice, fitting, told)))


class KeptRows(unittest.TestCase):
    def test_edges(self):
        self.assertEqual(kept_rows(tied()), (row(1, 0, 0), row(0, 1, 0), row(0, 0, 1)))
        self.assertEqual(kept_rows(tied("tie a x gnd", "tie b x gnd", "tie c v gnd")), (row(1, 1, 0),))
        self.assertEqual(kept_rows(Circuit("circuit\npart a 1\njoining j\ntie a gnd gnd")), ())
        self.assertEqual(kept_rows(Circuit("circuit\npart a 1\njoining j\njoining k\ntie a x x")), ())

    def test_of_all_joinings_together(self):
        lines = ["circuit", "part a 1", "part b 1", "part c 1", "joining ab", "tie a x gnd", "tie b x gnd"]
        circuit = Circuit("\n".join(lines + ["joining bc", "tie b x gnd", "tie c gnd x"]))
        self.assertEqual(directions(circuit, "ab"), (row(1, 1, 0), row(0, 0, 1)))
        self.assertEqual(directions(circuit, "bc"), (row(1, 0, 0), row(0, 1, -1)))
        self.assertEqual(kept_rows(circuit), (row(1, 1, -1),))

    def test_plain_lists_of_just_the_kept_rows(self):
        many = []
        for circuit in circuits_of_both_kinds(240):
            told = kept_rows(circuit)
            many.append(len(told))
            self.assertTrue(is_plain_list(told, len(circuit)))
            self.assertTrue(all(is_told_fraction(number) for numbers in told for number in numbers))
            self.assertEqual(len(told), many_kept_by(circuit, names_of(circuit)))
            for joining in names_of(circuit):
                self.assertTrue(all(is_direction(circuit, joining, numbers) for numbers in told))
        self.assertTrue({0, 1, 2, 3} <= set(many))

    def test_they_hang_on_no_size_and_no_voltage(self):
        for circuit in circuits_of_both_kinds(60):
            other = otherwise(random.Random(len(circuit.text)), circuit)
            self.assertEqual(kept_rows(other), kept_rows(circuit))
            for joining in names_of(circuit):
                self.assertEqual(directions(other, joining), directions(circuit, joining))

    def test_their_sums_are_the_same_behind_every_script(self):
        for circuit in circuits_of_both_kinds(120):
            dice = random.Random(len(circuit.text))
            start = some_standing(dice, circuit)
            script = some_script(dice, circuit, dice.randint(0, 9))
            after = behind(circuit, script, start)
            for numbers in kept_rows(circuit):
                self.assertEqual(sum_of(circuit, numbers, after), sum_of(circuit, numbers, start))

    def test_free_junctions_called_otherwise_and_parts_turned_about(self):
        for circuit in circuits_of_both_kinds(60):
            signs = some_signs(random.Random(len(circuit.text)), circuit)
            turned = turned_about(circuit, signs)
            self.assertEqual(kept_rows(called_otherwise(circuit)), kept_rows(circuit))
            self.assertEqual(len(kept_rows(turned)), len(kept_rows(circuit)))
            for numbers in kept_rows(circuit):
                self.assertEqual(is_kept(turned, with_signs(signs, numbers)), ("kept",))


class SumOf(unittest.TestCase):
    def test_by_hand(self):
        self.assertEqual(sum_of(SHARE, row(1, 1), row(6, 0)), (6, 1))
        self.assertEqual(sum_of(SHARE, row("1/2", -3), row("1/3", "5/4")), (-22, 3))
        self.assertEqual(sum_of(SHARE, row(0, 0), row(6, 7)), (0, 1))
        self.assertEqual(sum_of(LIFT, row(0, 1, 1), row(9, 2, "1/2")), (4, 1))

    def test_over_many_circuits(self):
        for circuit in circuits_of_both_kinds(60):
            dice = random.Random(len(circuit.text))
            numbers, standing = some_standing(dice, circuit), some_standing(dice, circuit)
            self.assertEqual(sum_of(circuit, numbers, standing), pair(sum_in(circuit, numbers, standing)))


class IsKept(Refusing):
    def check(self, circuit, numbers, told):
        self.assertIs(shows_is_kept(circuit, numbers, told), True)
        self.assertEqual(is_kept(Circuit(circuit.text), numbers), told)
        if told != ("kept",):
            word, joining, standing = told
            self.assertEqual(word, "changed")
            after = joined(circuit, joining, standing)
            self.assertNotEqual(sum_in(circuit, numbers, after), sum_in(circuit, numbers, standing))
            self.assertTrue(all(is_told_fraction(number) for number in standing))

    def test_over_many_circuits(self):
        answers = []
        for circuit in circuits_of_both_kinds(120):
            dice = random.Random(len(circuit.text))
            nothing = row(*[0] * len(circuit))
            rows = [nothing, with_kept(dice, nothing, kept_rows(circuit)), some_standing(dice, circuit)]
            for joining in names_of(circuit):
                rows.append(with_kept(dice, nothing, directions(circuit, joining)))
            for numbers in rows:
                told = is_kept(circuit, numbers)
                answers.append(told[0])
                kept = all(is_direction(circuit, joining, numbers) for joining in names_of(circuit))
                self.assertIs(told == ("kept",), kept)
                self.check(circuit, numbers, told)
                self.check_others(dice, circuit, numbers)
        self.assertGreater(answers.count("kept"), 200)
        self.assertGreater(answers.count("changed"), 200)

    def check_others(self, dice, circuit, numbers):
        """Any joining and standing show it exactly if the sum changes there."""
        kept = is_kept(circuit, numbers) == ("kept",)
        self.assertIs(shows_is_kept(circuit, numbers, ("kept",)), kept)
        for joining in names_of(circuit)[:3]:
            for standing in (some_standing(dice, circuit), numbers, row(*[0] * len(circuit))):
                after = joined(circuit, joining, standing)
                changed = sum_in(circuit, numbers, after) != sum_in(circuit, numbers, standing)
                self.assertFalse(kept and changed)
                self.assertIs(shows_is_kept(circuit, numbers, ("changed", joining, standing)), changed)

    def test_a_standing_of_noughts_or_the_row_alone_shows_it(self):
        filling = Circuit("circuit\nsource v 1\npart a 1\njoining idle\njoining fill\ntie a v gnd")
        self.assertIs(shows_is_kept(filling, row(1), ("changed", "fill", row(1))), False)
        self.assertIs(shows_is_kept(filling, row(1), ("changed", "fill", row(0))), True)
        self.assertIs(shows_is_kept(filling, row(1), ("changed", "idle", row(0))), False)
        self.assertEqual(is_kept(filling, row(1))[:2], ("changed", "fill"))
        emptying = Circuit("circuit\npart a 1\njoining idle\njoining empty\ntie a gnd gnd")
        self.assertIs(shows_is_kept(emptying, row(3), ("changed", "empty", row(0))), False)
        self.assertIs(shows_is_kept(emptying, row(3), ("changed", "empty", row(3))), True)
        self.assertEqual(is_kept(emptying, row(3))[:2], ("changed", "empty"))

    def test_a_direction_of_one_joining_alone(self):
        self.assertEqual(is_kept(LIFT, row(1, 0, 1))[:2], ("changed", "up"))
        self.assertEqual(is_kept(LIFT, row(0, 1, 0))[:2], ("changed", "row"))
        self.assertEqual(is_kept(LIFT, row(0, "-2/7", "-2/7")), ("kept",))
        self.assertEqual(is_kept(LIFT, row(0, 0, 0)), ("kept",))

    def test_wrong_forms(self):
        one = row(1, 0)
        self.refused_values(("changed", "par", row(6, 0)), SHARE, shows_is_kept, SHARE, one)
        self.refused_values(("kept",), SHARE, shows_is_kept, SHARE, row(1, 1))
        wrong = [
            ("kept",), ("changed", "nope", row(6, 0)), ("changed", "a", row(6, 0)), ("changed", "par", row(6)),
            ("changed", "par", row(6, 0, 0)), ("changed", "par"), ("kept", "par", row(6, 0)),
            ("changed", SHARE, row(6, 0)), ("changed", None, row(6, 0)), ("changed", ["par"], row(6, 0)),
            ("changed", "par", (6, 0)),
        ]
        for value in wrong:
            self.assertIs(shows_is_kept(SHARE, one, value), False)
        for value in NO_FRACTIONS:
            self.assertIs(shows_is_kept(SHARE, one, ("changed", "par", ((6, 1), value))), False)

    def test_any_value(self):
        for seed in range(40):
            circuit = some_circuit(seed)
            numbers = some_standing(random.Random(seed), circuit)
            for value in any_values(circuit) + [("kept",)]:
                shown = shows_is_kept(circuit, numbers, value)
                self.assertIs(shown, value == ("kept",) == is_kept(circuit, numbers))

    def test_sources_at_0_and_none(self):
        for circuit in circuits_of_both_kinds(60):
            flat, dice = grounded(circuit), random.Random(len(circuit.text))
            numbers = some_standing(dice, circuit)
            self.assertEqual(is_kept(flat, numbers)[0], is_kept(circuit, numbers)[0])
            self.check(flat, numbers, is_kept(flat, numbers))


class Arguments(Refusing):
    def test_by_name(self):
        self.assertEqual(directions(joining="par", circuit=SHARE), (row(1, 1),))
        self.assertEqual(kept_rows(circuit=SHARE), (row(1, 1),))
        self.assertEqual(sum_of(standing=row(6, 0), row=row(1, 1), circuit=SHARE), (6, 1))
        self.assertEqual(is_kept(row=row(1, 1), circuit=SHARE), ("kept",))
        self.assertIs(shows_is_kept(value=("kept",), row=row(1, 1), circuit=SHARE), True)

    def test_no_joining(self):
        for value in ("x", "a", "", "Par", "par ", "gnd", None, 0, True, (), ("par",), ["par"], {}, SHARE):
            self.refused(NoJoining, value, directions, SHARE, value)
        self.refused(NoJoining, "bat", directions, LIFT, "bat")

    def test_bad_row_then_bad_standing(self):
        for value in NO_ROWS_OF_TWO:
            self.refused(BadRow, value, sum_of, SHARE, value, row(1, 1))
            self.refused(BadRow, value, sum_of, SHARE, value, None)
            self.refused(BadStanding, value, sum_of, SHARE, row(1, 1), value)
            self.refused(BadRow, value, is_kept, SHARE, value)
            self.refused(BadRow, value, shows_is_kept, SHARE, value, ("kept",))
            self.refused(BadRow, value, shows_is_kept, SHARE, value, value)


if __name__ == "__main__":
    unittest.main()
