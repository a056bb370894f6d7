"""Section 12: whatever the sizes; section 3 (g) where it tells of sizes."""

import random
import unittest
from fractions import Fraction

from chargeturns.circuits import Circuit, with_size
from chargeturns.errors import BadSizes, BadStanding, NoRest
from chargeturns.rests import any_rest, draws, hangs, rest
from chargeturns.scripts import behind
from chargeturns.sizes import fixed_parts, for_all_sizes, shows_for_all_sizes, with_sizes
from chargeturns.sums import directions, kept_rows, sum_of
from tests.making import (
    BELOW_NOUGHT, NO_FRACTIONS, NO_ROWS_OF_TWO, Refusing, any_values, circuits_of_both_kinds, fraction_word,
    fractions_of, is_told_fraction, pair, row, some_sharing, some_size, some_standing,
)
from tests.reckoning import does_fit_all, names_of, with_kept

SHARE = Circuit("circuit\npart a 1\npart b 2\njoining par\ntie a x gnd\ntie b x gnd")
LIFT = Circuit("\n".join([
    "circuit", "source bat 6", "part a 1", "part b 2", "part c 1", "joining up", "tie a bat gnd",
    "joining side", "tie b x gnd", "tie c x gnd",
]))
TORN = Circuit("\n".join([
    "circuit", "source one 1", "source two 2", "part a 5", "part b 1", "joining p", "tie a one gnd",
    "joining q", "tie a two gnd",
]))
ONES = row(1, 1)


def sizes_of(circuit):
    return tuple(size for _, size in circuit.parts)


def some_sizes(dice, circuit):
    return tuple(pair(some_size(dice)) for _ in circuit.parts)


def some_circuits(many):
    circuits = circuits_of_both_kinds(many) + [some_sharing(seed) for seed in range(many)]
    for at, circuit in enumerate(circuits):
        yield circuit, random.Random(at)


def with_rest(many):
    for circuit, dice in some_circuits(many):
        if any_rest(circuit)[0] == "rest":
            yield circuit, dice


def is_touched(circuit, place):
    """Whether some kept row is not 0 at the part."""
    return any(kept[place] != (0, 1) for kept in kept_rows(circuit))


class WithSizes(Refusing):
    def test_line_by_line(self):
        for circuit, dice in some_circuits(60):
            sizes = some_sizes(dice, circuit)
            told, lines = with_sizes(circuit, sizes), circuit.text.split("\n")
            for k, ((part, _), size) in enumerate(zip(circuit.parts, sizes)):
                lines[1 + len(circuit.sources) + k] = f"part {part} {fraction_word(Fraction(*size))}"
            self.assertEqual(told.text, "\n".join(lines))
            self.assertEqual(sizes_of(told), sizes)
            self.assertEqual((told.sources, told.joinings), (circuit.sources, circuit.joinings))
            self.assertEqual(with_sizes(told, sizes_of(circuit)), circuit)
            self.assertEqual(with_sizes(circuit, sizes_of(circuit)), circuit)

    def test_a_circuit_never_changes(self):
        text, parts = SHARE.text, SHARE.parts
        with_sizes(SHARE, row(5, 7))
        self.assertEqual((SHARE.text, SHARE.parts), (text, parts))

    def test_bad_sizes(self):
        wrong = [(value, (1, 1)) for value in BELOW_NOUGHT + [(0, 1)]] + [((1, 1), value) for value in BELOW_NOUGHT]
        for value in NO_ROWS_OF_TWO + wrong + [((1, 1), (0, 1)), "ab", row(1, 1, 1, 1)]:
            self.refused(BadSizes, value, with_sizes, SHARE, value)

    def test_by_name(self):
        self.assertEqual(with_sizes(sizes=row(3, 4), circuit=SHARE).parts, (("a", (3, 1)), ("b", (4, 1))))


class FixedParts(Refusing):
    def test_by_hand(self):
        self.assertEqual(fixed_parts(LIFT), (("a", (6, 1)),))
        self.assertEqual(fixed_parts(SHARE), ())
        text = SHARE.text + "\njoining out\ntie b gnd gnd"
        self.assertEqual(fixed_parts(Circuit(text)), (("a", (0, 1)), ("b", (0, 1))))

    def test_over_many_circuits(self):
        kinds = []
        for circuit, dice in with_rest(60):
            told = fixed_parts(circuit)
            self.assertIs(type(told), tuple)
            ends = [rest(circuit, some_standing(dice, circuit)) for _ in range(3)]
            fixed = []
            for place, (part, _) in enumerate(circuit.parts):
                if len({end[place] for end in ends}) == 1:
                    fixed.append((part, ends[0][place]))
                self.assertIs(hangs(circuit, part)[0] == "fixed", (part, ends[0][place]) in told)
                self.assertIs(is_touched(circuit, place), part not in dict(told))
            self.assertEqual(told, tuple(fixed))
            self.assertEqual(fixed_parts(Circuit(circuit.text)), told)
            kinds.append(0 if not told else 2 if len(told) == len(circuit) else 1)
        self.assertTrue(all(kinds.count(kind) > 10 for kind in (0, 1, 2)))

    def test_no_rest(self):
        for circuit in [TORN] + [circuit for circuit, _ in some_circuits(60) if any_rest(circuit)[0] == "lot"]:
            self.refused_as_told(NoRest, any_rest(circuit), fixed_parts, circuit)

    def test_by_name(self):
        self.assertEqual(fixed_parts(circuit=SHARE), ())


class ForAllSizes(unittest.TestCase):
    def test_by_hand(self):
        self.assertEqual(for_all_sizes(SHARE, row(4, 4)), ("same", row(4, 4)))
        self.assertEqual(for_all_sizes(LIFT, row("-1/2", 5, 5)), ("same", row(6, 5, 5)))
        self.assertEqual(for_all_sizes(LIFT, row(6, 5, 4))[0], "hangs")
        for one, other, right in [
            (ONES, row(1, 2), True), (ONES, row(5, 5), False), (row(1, 2), row(2, 1), True),
            (row(1, 2), row("1/2", 1), False), (row(7, 3), row(7, 3), False),
        ]:
            self.assertIs(shows_for_all_sizes(SHARE, row(6, 0), ("hangs", one, other)), right)
        # A start whose difference to its rest stands at right angles to the kept row by these sizes alone.
        self.assertEqual(rest(SHARE, row(2, -1)), row(0, 0))
        self.assertEqual(for_all_sizes(SHARE, row(2, -1))[0], "hangs")

    def test_a_rest_that_agrees_at_some_touched_parts_only(self):
        # b is in its rest with these sizes, but not with others.
        text = "circuit\npart a 1\npart b 1\npart c 1\njoining j\ntie a x gnd\ntie b x gnd\ntie c x gnd"
        told = for_all_sizes(Circuit(text), row(1, 2, 3))
        self.assertEqual(told[0], "hangs")
        self.assertIs(shows_for_all_sizes(Circuit(text), row(1, 2, 3), told), True)
        # Another size of b alone does not matter.
        value = ("hangs", row(1, 1, 1), row(1, 9, 1))
        self.assertIs(shows_for_all_sizes(Circuit(text), row(1, 2, 3), value), False)

    def test_over_many_circuits(self):
        answers = []
        for circuit, dice in with_rest(70):
            loose = some_standing(dice, circuit)
            inner = rest(circuit, some_standing(dice, circuit))
            mixed = tuple(a if is_touched(circuit, k) else b for k, (a, b) in enumerate(zip(inner, loose)))
            for standing in (loose, inner, mixed):
                told = for_all_sizes(circuit, standing)
                answers.append(told[0])
                self.assertIs(shows_for_all_sizes(circuit, standing, told), True)
                self.assertEqual(for_all_sizes(Circuit(circuit.text), standing), told)
                self.check(circuit, dice, standing, told)
            self.assertEqual(for_all_sizes(circuit, mixed), ("same", inner))
        self.assertGreater(answers.count("same"), 200)
        self.assertGreater(answers.count("hangs"), 35)

    def check(self, circuit, dice, standing, told):
        settled, sizes = rest(circuit, standing), [some_sizes(dice, circuit) for _ in range(3)]
        ends = [rest(with_sizes(circuit, table), standing) for table in sizes]
        # It agrees with the standing at all parts that kept rows touch exactly if it is told as the same.
        agrees = all(settled[k] == standing[k] for k in range(len(circuit)) if is_touched(circuit, k))
        self.assertIs(told[0] == "same", agrees)
        if told[0] == "same":
            self.assertEqual(told, ("same", settled))
            self.assertEqual(ends, [settled] * 3)
        else:
            self.check_hangs(circuit, standing, told)
        for table, end in zip(sizes, ends):
            shown = shows_for_all_sizes(circuit, standing, ("hangs", sizes_of(circuit), table))
            self.assertIs(shown, end != settled)
        self.assertIs(shows_for_all_sizes(circuit, standing, ("same", settled)), told[0] == "same")

    def check_hangs(self, circuit, standing, told):
        self.assertEqual((told[0], len(told)), ("hangs", 3))
        for table in told[1:]:
            self.assertEqual(len(table), len(circuit))
            self.assertTrue(all(is_told_fraction(size) and size[0] > 0 for size in table))
        one, other = (rest(with_sizes(circuit, table), standing) for table in told[1:])
        self.assertNotEqual(one, other)

    def test_standings_that_are_rests_already(self):
        for circuit, dice in with_rest(50):
            settled = with_kept(dice, any_rest(circuit)[1], kept_rows(circuit))
            self.assertEqual(for_all_sizes(circuit, settled), ("same", settled))

    def test_nothing_kept(self):
        for circuit, dice in with_rest(60):
            if not kept_rows(circuit):
                told = for_all_sizes(circuit, some_standing(dice, circuit))
                self.assertEqual(told, ("same", any_rest(circuit)[1]))

    def test_parts_that_no_joining_moves(self):
        idle = Circuit("circuit\npart a 1\npart b 2\njoining i\njoining j\ntie b p q")
        self.assertEqual(for_all_sizes(idle, row(7, "-1/3")), ("same", row(7, "-1/3")))
        self.assertEqual(fixed_parts(idle), ())


class WhateverTheSizes(unittest.TestCase):
    def test_rests_kept_rows_and_fixed_parts(self):
        for circuit, dice in some_circuits(60):
            other = with_sizes(circuit, some_sizes(dice, circuit))
            self.assertEqual(any_rest(other)[0], any_rest(circuit)[0])
            self.assertEqual(kept_rows(other), kept_rows(circuit))
            for joining in names_of(circuit):
                self.assertEqual(directions(other, joining), directions(circuit, joining))
            if any_rest(circuit)[0] == "rest":
                self.assertEqual(fixed_parts(other), fixed_parts(circuit))
                self.assertTrue(does_fit_all(other, names_of(other), any_rest(circuit)[1]))
            else:
                lot = any_rest(circuit)[1]
                self.assertEqual(draws(other, lot), draws(circuit, lot))

    def test_told_rests_are_those_of_the_circuit(self):
        for circuit, dice in with_rest(30):
            standing = some_standing(dice, circuit)
            told = for_all_sizes(circuit, standing)
            if told[0] == "hangs":
                for table in told[1:]:
                    other = with_sizes(circuit, table)
                    settled = rest(other, standing)
                    for kept in kept_rows(other):
                        self.assertEqual(sum_of(other, kept, settled), sum_of(other, kept, standing))


class Shows(Refusing):
    def test_wrong_forms(self):
        self.refused_values(("same", row(4, 4)), SHARE, shows_for_all_sizes, SHARE, row(4, 4))
        self.refused_values(("hangs", ONES, row(1, 2)), SHARE, shows_for_all_sizes, SHARE, row(6, 0))
        for value in NO_FRACTIONS + BELOW_NOUGHT + [(0, 1)]:
            for sizes in ((value, (1, 1)), ((1, 1), value)):
                self.assertIs(shows_for_all_sizes(SHARE, row(6, 0), ("hangs", ONES, sizes)), False)
                self.assertIs(shows_for_all_sizes(SHARE, row(6, 0), ("hangs", sizes, ONES)), False)
            if value not in BELOW_NOUGHT + [(0, 1)]:
                self.assertIs(shows_for_all_sizes(SHARE, row(4, 4), ("same", ((4, 1), value))), False)
        for value in (("same", row(4, 4)), ("hangs", ONES), ("hangs", ONES, row(1)), ("hangs",), ("same", row(2, 2))):
            self.assertIs(shows_for_all_sizes(SHARE, row(6, 0), value), False)
        for value in (("same", row(4, 3)), ("hangs", ONES, row(1, 2)), ("same",), ("same", row(4))):
            self.assertIs(shows_for_all_sizes(SHARE, row(4, 4), value), False)

    def test_any_value(self):
        for circuit, dice in with_rest(8):
            standing = some_standing(dice, circuit)
            for value in any_values(circuit, "same", "hangs"):
                self.assertIs(shows_for_all_sizes(circuit, standing, value), False)


class Wrong(Refusing):
    def test_bad_standing(self):
        for value in NO_ROWS_OF_TWO:
            for circuit in (SHARE, TORN):
                self.refused(BadStanding, value, for_all_sizes, circuit, value)
                self.refused(BadStanding, value, shows_for_all_sizes, circuit, value, ("same", row(1, 1)))

    def test_no_rest(self):
        for circuit in [TORN] + [circuit for circuit, _ in some_circuits(40) if any_rest(circuit)[0] == "lot"]:
            standing = row(*range(len(circuit)))
            self.refused_as_told(NoRest, any_rest(circuit), for_all_sizes, circuit, standing)
            self.refused_as_told(NoRest, any_rest(circuit), shows_for_all_sizes, circuit, standing, None)

    def test_by_name(self):
        self.assertEqual(for_all_sizes(standing=row(4, 4), circuit=SHARE), ("same", row(4, 4)))
        shown = shows_for_all_sizes(value=("same", row(4, 4)), standing=row(4, 4), circuit=SHARE)
        self.assertIs(shown, True)

    def test_what_was_told_handed_in_again(self):
        lines = ["circuit", "part a 997/13", "part b 991/983", "part c 977/7", "joining ab", "tie a x gnd", "tie b x gnd"]
        circuit = Circuit("\n".join(lines + ["joining bc", "tie b y gnd", "tie c y gnd"]))
        start = row(1, 0, 0)
        while start[0][0].bit_length() < 15000:
            start = behind(circuit, ("ab", "bc") * 20, start)
        told = for_all_sizes(circuit, start)
        self.assertEqual(told[0], "hangs")
        self.assertIs(shows_for_all_sizes(circuit, start, told), True)
        # Numbers far beyond what Python itself writes as text, as sizes.
        self.assertIs(shows_for_all_sizes(circuit, row(1, 0, 0), ("hangs", row(1, 1, 1), start)), True)
        self.assertIs(shows_for_all_sizes(circuit, row(1, 0, 0), ("hangs", start, start)), False)
        self.assertEqual(sizes_of(with_sizes(circuit, start)), start)
        settled = rest(with_sizes(circuit, start), row(1, 0, 0))
        self.assertEqual(settled[0], settled[2])
        self.assertEqual(fractions_of(settled)[0], Fraction(*start[0]) / sum(fractions_of(start)))
        self.assertEqual(for_all_sizes(circuit, settled), ("same", settled))
        self.assertEqual(with_size(circuit, "b", start[1]).parts[1], ("b", start[1]))


if __name__ == "__main__":
    unittest.main()
