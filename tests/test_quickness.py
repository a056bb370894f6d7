"""Section 10: rates, quickness, finite scripts; section 3 (f)."""

import random
import unittest
from fractions import Fraction

from chargeturns.circuits import Circuit, grounded
from chargeturns.cycles import cycle, own_kept
from chargeturns.errors import BadRate, BadScript, BadWithin, Empty
from chargeturns.quickness import finite, holds, quickness, shows_finite, shows_holds, shows_quickness
from chargeturns.scripts import behind
from chargeturns.sums import sum_of
from tests.gaps import chain, corners_of, does_break, does_hold, gap_of, round_of, squares_of_round
from tests.making import (
    BELOW_NOUGHT, NO_FRACTIONS, PART_NAMES, Refusing, any_values, called_otherwise, circuits_of_both_kinds,
    fractions_of, is_told_fraction, pair, row, some_fraction, some_script, some_sharing,
    some_standing, square_between, text_of,
    wrong_scripts,
)

EVEN = Circuit("\n".join([
    "circuit", "source s 7", "part p 1", "part q 1", "joining even", "tie p m gnd", "tie q m gnd",
    "joining empty", "tie p gnd gnd", "joining idle", "joining fill", "tie q s gnd",
]))
TURN = ("even", "empty")
# Behind the first joining q is 0, behind the second one both are alike, behind the third one p is 0.
TWICE = ("fill", "even", "empty")
LIMIT = 10 ** 12 - 1


def cases(many):
    """Circuits with a dice and scripts of one, two, three and more joinings."""
    for at, circuit in enumerate(circuits_of_both_kinds(many // 4) + [some_sharing(seed) for seed in range(many)]):
        dice = random.Random(at)
        yield circuit, dice, some_script(dice, circuit, (1, 2, 3, 5, dice.randint(4, 9))[at % 5])


def some_rates(dice):
    rates = [0, 1, Fraction(dice.randint(1, 9), 40), Fraction(dice.randint(1, 99), 100), 1 + abs(some_fraction(dice))]
    return [pair(rate) for rate in rates]


def some_gap(dice, circuit, script):
    return gap_of(circuit, script, some_standing(dice, circuit))


def is_gap(circuit, script, numbers):
    return all(sum_of(circuit, kept, numbers) == (0, 1) for kept in own_kept(circuit, script))


def times(factor, numbers):
    return row(*[factor * number for number in fractions_of(numbers)])


class Holds(unittest.TestCase):
    def test_by_hand(self):
        # Of (p, q) the round is (0, (p + q) / 2): a quarter of (p + q) squared against both squares.
        self.assertEqual(holds(EVEN, TURN, (1, 2)), ("holds",))
        self.assertEqual(holds(EVEN, TURN, (LIMIT // 2, LIMIT))[0], "broken")
        self.assertEqual(holds(EVEN, ("even",), (0, 1)), ("holds",))
        self.assertEqual(holds(EVEN, ("idle",), (0, 1)), ("holds",))
        self.assertEqual(holds(EVEN, ("empty", "empty"), (0, 1)), ("holds",))
        self.assertEqual(holds(EVEN, ("empty", "fill"), (0, 1)), ("holds",))
        self.assertEqual(holds(EVEN, TURN, (0, 1))[0], "broken")
        for rate in ((1, 3), (1, 5), (0, 1)):
            self.assertIs(shows_holds(EVEN, TURN, rate, ("broken", row(1, 0))), rate != (1, 3))
            self.assertIs(shows_holds(EVEN, TURN, rate, ("broken", row(-3, -3))), True)
            self.assertIs(shows_holds(EVEN, TURN, rate, ("broken", row(1, -1))), False)
            self.assertIs(shows_holds(EVEN, TURN, rate, ("broken", row(0, 0))), False)

    def test_sizes_weigh(self):
        # Of (p, q) the round is (0, (p + 4q) / 5): its square is 4/25 of (p + 4q) squared, at most (pp + 4qq) * 20/25.
        text = EVEN.text.replace("part q 1", "part q 4")
        self.assertEqual(holds(Circuit(text), TURN, (4, 5)), ("holds",))
        self.assertIs(shows_holds(Circuit(text), TURN, (799, 1000), ("broken", row(1, 1))), True)
        self.assertIs(shows_holds(Circuit(text), TURN, (799, 1000), ("broken", row(1, 2))), False)

    def test_over_many_circuits(self):
        answers = []
        for circuit, dice, script in cases(160):
            for rate in some_rates(dice):
                told = holds(circuit, script, rate)
                answers.append(told[0])
                self.assertIs(shows_holds(circuit, script, rate, told), True)
                self.assertEqual(holds(Circuit(circuit.text), script, rate), told)
                self.assertIs(shows_holds(circuit, script, rate, ("holds",)), told == ("holds",))
                if told != ("holds",):
                    self.check_broken(circuit, script, rate, told)
                self.check_gaps(circuit, dice, script, rate, told)
        self.assertGreater(answers.count("holds"), 400)
        self.assertGreater(answers.count("broken"), 150)

    def check_broken(self, circuit, script, rate, told):
        self.assertEqual((told[0], len(told), len(told[1])), ("broken", 2, len(circuit)))
        self.assertTrue(all(is_told_fraction(number) for number in told[1]))
        self.assertTrue(is_gap(circuit, script, told[1]))
        self.assertTrue(does_break(circuit, script, rate, told[1]))
        self.assertIs(shows_holds(circuit, script, rate, ("broken", times(Fraction(-7, 3), told[1]))), True)
        for kept in own_kept(circuit, script)[:2]:
            loose = row(*[a + b for a, b in zip(fractions_of(told[1]), fractions_of(kept))])
            self.assertIs(shows_holds(circuit, script, rate, ("broken", loose)), False)

    def check_gaps(self, circuit, dice, script, rate, told):
        for _ in range(2):
            gap = some_gap(dice, circuit, script)
            broken = does_break(circuit, script, rate, gap)
            self.assertFalse(broken and told == ("holds",))
            self.assertIs(shows_holds(circuit, script, rate, ("broken", gap)), broken)

    def test_by_determinants(self):
        answers = []
        for circuit, dice, script in cases(100):
            if len(circuit) < 5:
                # A rate near the least one that holds, and others.
                low, high, _ = quickness(circuit, script, (1, 50))
                for rate in some_rates(dice)[:4] + [low, high]:
                    held = does_hold(circuit, script, rate)
                    answers.append(held)
                    self.assertIs(holds(circuit, script, rate) == ("holds",), held)
        self.assertGreater(answers.count(True), 150)
        self.assertGreater(answers.count(False), 60)

    def test_all_rates_from_one_number_on(self):
        for circuit, dice, script in cases(80):
            self.assertEqual(holds(circuit, script, (1, 1)), ("holds",))
            self.assertEqual(holds(circuit, script, (LIMIT, 1)), ("holds",))
            rates = sorted(abs(some_fraction(dice)) / 7 for _ in range(6))
            answers = [holds(circuit, script, pair(rate)) == ("holds",) for rate in rates]
            self.assertEqual(answers, sorted(answers))

    def test_some_rate_below_1_holds(self):
        for circuit, _, script in cases(60):
            within = Fraction(1, 2)
            while quickness(circuit, script, pair(within))[1] == (1, 1):
                within /= 8
            self.assertEqual(holds(circuit, script, pair(1 - within / 2))[0], "holds")

    def test_sources_and_names_do_not_matter(self):
        for circuit, dice, script in cases(40):
            for rate in some_rates(dice):
                told = holds(circuit, script, rate)
                self.assertEqual(holds(grounded(circuit), script, rate), told)
                self.assertEqual(holds(called_otherwise(circuit), script, rate), told)
            self.assertEqual(finite(grounded(circuit), script), finite(circuit, script))
            self.assertEqual(quickness(grounded(circuit), script, (1, 9)), quickness(circuit, script, (1, 9)))

    def test_behind_many_rounds(self):
        for circuit, dice, script in cases(60):
            high = Fraction(*quickness(circuit, script, (1, 16))[1])
            start = some_standing(dice, circuit)
            first = cycle(circuit, script, start)[0]
            square, bound = square_between(circuit, start, first), Fraction(1)
            for _ in range(4):
                start, bound = behind(circuit, script, start), bound * high
                self.assertLessEqual(square_between(circuit, start, first), bound * square)

    def test_what_lies_between_a_run_and_its_cycle(self):
        for circuit, dice, script in cases(60):
            start = some_standing(dice, circuit)
            first, after = cycle(circuit, script, start)[0], behind(circuit, script, start)
            gap = row(*[a - b for a, b in zip(fractions_of(start), fractions_of(first))])
            self.assertTrue(is_gap(circuit, script, gap))
            led = row(*[a - b for a, b in zip(fractions_of(after), fractions_of(first))])
            self.assertEqual(round_of(circuit, script, gap), led)
            self.assertTrue(is_gap(circuit, script, led))
            for rate in some_rates(dice):
                broken = does_break(circuit, script, rate, gap)
                self.assertIs(shows_holds(circuit, script, rate, ("broken", gap)), broken)


class Quickness(unittest.TestCase):
    def check(self, circuit, script, within, told):
        self.assertEqual((type(told), len(told)), (tuple, 3))
        self.assertIs(shows_quickness(circuit, script, within, told), True)
        low, high, gap = told
        self.assertTrue(is_told_fraction(low) and is_told_fraction(high))
        self.assertEqual(holds(circuit, script, high), ("holds",))
        self.assertIs(shows_quickness(circuit, script, within, ((0, 1), (0, 1), None)), gap is None)
        if gap is None:
            self.assertEqual(told, ((0, 1), (0, 1), None))
            return
        self.assertEqual(holds(circuit, script, low)[0], "broken")
        self.assertTrue(is_gap(circuit, script, gap))
        self.assertTrue(does_break(circuit, script, low, gap))
        self.assertLessEqual(Fraction(*high) - Fraction(*low), Fraction(*within))
        self.assertGreaterEqual(Fraction(*low), 0)

    def test_over_many_circuits(self):
        nothing = 0
        for at, (circuit, dice, script) in enumerate(cases(120)):
            for within in ((1, 100), (3, 2), (1, dice.randint(1, 10 ** 4)), (1, LIMIT))[:3 + (at % 4 == 0)]:
                told = quickness(circuit, script, within)
                nothing += told[2] is None
                self.check(circuit, script, within, told)
                self.assertEqual(quickness(Circuit(circuit.text), script, within), told)
                if len(script) == 1:
                    self.assertIsNone(told[2])
        self.assertTrue(100 < nothing < 500)

    def test_by_hand(self):
        for within in ((1, 1), (1, 3), (1, 100), (2, 999), (1, LIMIT)):
            low, high, gap = quickness(EVEN, TURN, within)
            self.assertTrue(Fraction(*low) < Fraction(1, 2) <= Fraction(*high))
            self.assertIs(shows_quickness(EVEN, TURN, within, (low, (1, 2), gap)), True)
        for script in (("even",), ("idle",), ("fill", "empty"), ("empty", "fill", "empty")):
            self.assertEqual(quickness(EVEN, script, (1, LIMIT)), ((0, 1), (0, 1), None))

    def test_a_number_that_is_no_fraction(self):
        # The round of a ring of three joinings; the least rate that holds is no fraction, low and high come nearer.
        ring = Circuit("\n".join([
            "circuit", "part a 1", "part b 1", "part c 1", "joining ab", "tie a x gnd", "tie b x gnd",
            "joining bc", "tie b x gnd", "tie c x gnd", "joining a", "tie a gnd gnd",
        ]))
        script, widths = ("ab", "bc", "a"), []
        for within in ((1, 10), (1, 10 ** 6), (1, LIMIT)):
            told = quickness(ring, script, within)
            self.check(ring, script, within, told)
            widths.append(Fraction(*told[1]) - Fraction(*told[0]))
        self.assertTrue(0 < widths[2] < widths[1] < widths[0])

    def test_other_values(self):
        # The least rate that holds is 1/2; (p, q) breaks all below (p + q) (p + q) / 4 / (p p + q q).
        for low, high, gap, right in [
            ((49, 100), (1, 2), row(1, 1), True), ((49, 100), (51, 100), row(1, 1), False),
            ((491, 1000), (501, 1000), row(2, 2), True), ((1, 2), (1, 2), row(1, 1), False),
            ((499, 1000), (499, 1000), row(1, 1), False), ((49, 100), (1, 2), row(1, 0), False),
            ((49, 100), (1, 2), row(9, 10), True), ((0, 1), (1, 100), row(1, 1), False),
            ((0, 1), (1, 2), row(1, 1), False), ((98, 200), (1, 2), row(1, 1), False),
            ((49, 100), (1, 2), row(0, 0), False), ((51, 100), (1, 2), row(1, 1), False),
            ((-1, 100), (0, 1), row(1, 1), False), ((49, 100), (50, 100), row(1, 1), False),
        ]:
            self.assertIs(shows_quickness(EVEN, TURN, (1, 100), (low, high, gap)), right)
        self.assertIs(shows_quickness(EVEN, TURN, (5, 1), ((0, 1), (5, 1), row(1, 0))), True)
        self.assertIs(shows_quickness(EVEN, TURN, (5, 1), ((0, 1), (11, 2), row(1, 0))), False)
        for value in (((0, 1), (1, 2), row(1, 1)), ((0, 1), (0, 1), row(1, -1)), ((0, 1), (1, 100), None)):
            self.assertIs(shows_quickness(EVEN, ("even",), (1, 100), value), False)


class Finite(unittest.TestCase):
    def test_by_hand(self):
        self.assertEqual(finite(EVEN, ("even",)), ("behind", 1))
        self.assertEqual(finite(EVEN, ("idle", "idle")), ("behind", 0))
        self.assertEqual(finite(EVEN, ("fill", "empty")), ("behind", 1))
        self.assertEqual(finite(EVEN, TWICE), ("behind", 2))
        self.assertEqual(finite(EVEN, ("fill", "even", "idle", "empty")), ("behind", 2))
        self.assertEqual(finite(EVEN, TWICE + ("fill",)), ("behind", 1))
        self.assertEqual(finite(EVEN, TURN)[0], "never")
        self.assertEqual(round_of(EVEN, TWICE, row(4, 9)), row(0, 2))
        for gap in (row(1, 0), row(0, "-1/3"), row(5, 5)):
            self.assertIs(shows_finite(EVEN, TURN, ("never", gap)), True)
        for gap in (row(1, -1), row(0, 0), row("-1/2", "1/2")):
            self.assertIs(shows_finite(EVEN, TURN, ("never", gap)), False)
            self.assertIs(shows_finite(EVEN, TWICE, ("never", gap)), False)

    def test_as_many_rounds_as_parts(self):
        circuit, script = chain(3)
        self.assertEqual(finite(circuit, script), ("behind", 3))
        self.assertEqual(quickness(circuit, script, (1, 100))[2] is None, False)
        circuit, script = chain(4)
        self.assertEqual(finite(circuit, script), ("behind", 3))
        for number in range(6):
            self.assertIs(shows_finite(circuit, script, ("behind", number)), number == 3)
        self.assertIs(shows_finite(circuit, script, ("never", row(1, 1, 1, 1))), False)

    def test_a_gap_that_lasts_for_some_rounds_only(self):
        # b and c share for ever, a is led to them by the first round and lost in the next ones.
        lines = ["circuit", "part a 1", "part b 1", "part c 1", "part d 1", "joining d", "tie d gnd gnd"]
        lines += ["joining ad", "tie a x gnd", "tie d x gnd", "joining a", "tie a y y"]
        lines += ["joining bc", "tie b x gnd", "tie c x gnd", "joining b", "tie b gnd gnd"]
        circuit, script = Circuit("\n".join(lines)), ("d", "ad", "a", "bc", "b")
        self.assertEqual(finite(circuit, script)[0], "never")
        self.assertNotEqual(round_of(circuit, script, row(1, 0, 0, 0)), row(0, 0, 0, 0))
        self.assertIs(shows_finite(circuit, script, ("never", row(1, 0, 0, 0))), False)
        self.assertIs(shows_finite(circuit, script, ("never", row(1, 1, 0, 0))), True)
        self.assertIs(shows_finite(circuit, script, ("never", row(1, 1, -1, 5))), False)

    def test_over_many_circuits(self):
        answers = []
        for circuit, dice, script in cases(160):
            told = finite(circuit, script)
            answers.append(told if told[0] == "behind" else "never")
            self.assertEqual(finite(Circuit(circuit.text), script), told)
            self.assertIs(shows_finite(circuit, script, told), True)
            for number in range(4):
                self.assertIs(shows_finite(circuit, script, ("behind", number)), told == ("behind", number))
            self.check(circuit, script, told)
            if len(script) < 3 and told[0] == "behind":
                self.assertIn(told[1], (0, 1))
            self.check_gaps(circuit, script, some_gap(dice, circuit, script), told)
        for answer in (("behind", 0), ("behind", 1), "never"):
            self.assertGreater(answers.count(answer), 15)

    def check(self, circuit, script, told):
        """By the rounds of gaps of which all are made."""
        gaps, nothing = [gap_of(circuit, script, corner) for corner in corners_of(circuit)], row(*[0] * len(circuit))
        number = 0
        while any(gap != nothing for gap in gaps) and number <= len(circuit):
            gaps, number = [round_of(circuit, script, gap) for gap in gaps], number + 1
        if told[0] == "behind":
            self.assertEqual(told, ("behind", number))
            self.assertIs(type(told[1]), int)
            self.assertLessEqual(number, len(circuit))
        else:
            self.assertEqual(number, len(circuit) + 1)
            self.assertEqual((told[0], len(told)), ("never", 2))
            self.assertTrue(is_gap(circuit, script, told[1]))
            self.check_gaps(circuit, script, told[1], told)

    def check_gaps(self, circuit, script, gap, told):
        led, nothing = gap, row(*[0] * len(circuit))
        for _ in circuit.parts:
            led = round_of(circuit, script, led)
        self.assertIs(shows_finite(circuit, script, ("never", gap)), led != nothing)
        self.assertFalse(told[0] == "behind" and led != nothing)

    def test_made_from_joinings_that_drop_and_pass_on(self):
        answers = []
        for many in (3, 4):
            circuit, script = chain(many)
            for seed in range(40):
                dice = random.Random(seed)
                mixed = tuple(dice.sample(script, dice.randint(3, len(script))))
                told = finite(circuit, mixed)
                answers.append(told[1] if told[0] == "behind" else None)
                self.check(circuit, mixed, told)
                self.assertIs(shows_finite(circuit, mixed, told), True)
        self.assertGreater(answers.count(2), 3)

    def test_from_then_on_each_start_is_at_its_cycle(self):
        for circuit, dice, script in cases(80):
            told, start = finite(circuit, script), some_standing(dice, circuit)
            first = cycle(circuit, script, start)[0]
            if told[0] == "behind":
                for _ in range(told[1]):
                    start = behind(circuit, script, start)
                self.assertEqual(start, first)
        circuit, script = chain(3)
        first = cycle(circuit, script, row(1, 2, 3))[0]
        self.assertEqual(behind(circuit, script * 3, row(1, 2, 3)), first)
        self.assertNotEqual(behind(circuit, script * 2, row(1, 2, 3)), first)


class Edges(unittest.TestCase):
    def test_40_joinings(self):
        for circuit in circuits_of_both_kinds(12):
            script = some_script(random.Random(len(circuit.text)), circuit, 40)
            for rate in ((1, 3), (1, 1), (0, 1)):
                self.assertIs(shows_holds(circuit, script, rate, holds(circuit, script, rate)), True)
            told = quickness(circuit, script, (1, LIMIT))
            self.assertIs(shows_quickness(circuit, script, (1, LIMIT), told), True)
            self.assertIs(shows_finite(circuit, script, finite(circuit, script)), True)

    def test_what_was_told_handed_in_again(self):
        lines = [f"joining {a}{b}\ntie {a} x gnd\ntie {b} x gnd" for a, b in ("ab", "bd", "da")]
        parts = [("a", Fraction(9973, 997)), ("b", Fraction(991, 983)), ("d", Fraction(977, 7919))]
        circuit = Circuit(text_of([], parts, []) + "\njoining a\ntie a gnd gnd\n" + "\n".join(lines))
        script = ("ab", "bd", "da", "a") * 10
        low, high, gap = quickness(circuit, script, (1, LIMIT))
        within = pair((Fraction(*high) - Fraction(*low)) ** 9)
        told = quickness(circuit, script, within)
        self.assertIs(shows_quickness(circuit, script, within, told), True)
        self.assertIs(shows_quickness(circuit, script, (1, 7), told), True)
        self.assertIs(shows_quickness(circuit, script, within, (low, high, gap)), False)
        for _ in range(6):
            gap = round_of(circuit, script, gap)
        self.assertIs(shows_finite(circuit, script, ("never", gap)), True)
        self.assertGreater(max(len(str(number)) for pair_ in gap for number in pair_), 300)
        ahead, after = squares_of_round(circuit, script, gap)
        self.assertIs(shows_holds(circuit, script, pair(after / ahead), ("broken", gap)), False)
        # No fraction of a gap's own squares is broken by it, but each one a little less.
        less = pair(after / ahead - Fraction(1, 10 ** 700))
        self.assertIs(shows_holds(circuit, script, less, ("broken", gap)), True)
        self.assertEqual(holds(circuit, script, less)[0], "broken")

    def test_one_part(self):
        circuit = Circuit("circuit\nsource s 3\npart a 2\njoining fill\ntie a s gnd\njoining idle\njoining out\ntie a x x")
        self.assertEqual(finite(circuit, ("fill", "out", "fill")), ("behind", 1))
        self.assertEqual(finite(circuit, ("idle",)), ("behind", 0))
        self.assertEqual(quickness(circuit, ("fill", "idle"), (1, 9)), ((0, 1), (0, 1), None))
        self.assertEqual(holds(circuit, ("out",), (0, 1)), ("holds",))

    def test_all_parts(self):
        text = text_of([], [(name, 1) for name in PART_NAMES], [("j", [(name, "x", "gnd") for name in PART_NAMES])])
        circuit = Circuit(text + "\njoining out\ntie a gnd gnd")
        self.assertEqual(finite(circuit, ("j",)), ("behind", 1))
        # An eighth is dropped at each round.
        told = quickness(circuit, ("j", "out"), (1, 10 ** 6))
        self.assertTrue(Fraction(*told[0]) < Fraction(7, 8) <= Fraction(*told[1]))
        self.assertEqual(holds(circuit, ("j", "out"), (7, 8)), ("holds",))


class Shows(Refusing):
    def test_wrong_forms(self):
        self.refused_values(("holds",), EVEN, shows_holds, EVEN, TURN, (1, 2))
        self.refused_values(("broken", row(1, 1)), EVEN, shows_holds, EVEN, TURN, (1, 3))
        self.refused_values(((0, 1), (0, 1), None), EVEN, shows_quickness, EVEN, ("even",), (1, 2))
        self.refused_values(((49, 100), (1, 2), row(1, 1)), EVEN, shows_quickness, EVEN, TURN, (1, 100))
        self.refused_values(("behind", 1), EVEN, shows_finite, EVEN, ("even",))
        self.refused_values(("behind", 0), EVEN, shows_finite, EVEN, ("idle",))
        self.refused_values(("behind", 2), EVEN, shows_finite, EVEN, TWICE)
        self.refused_values(("never", row(1, 0)), EVEN, shows_finite, EVEN, TURN)
        for value in NO_FRACTIONS:
            self.assertIs(shows_holds(EVEN, TURN, (1, 3), ("broken", ((1, 1), value))), False)
            self.assertIs(shows_finite(EVEN, TURN, ("never", (value, (0, 1)))), False)
            for told in ((value, (1, 2), row(1, 1)), ((49, 100), value, row(1, 1)), ((49, 100), (1, 2), value)):
                self.assertIs(shows_quickness(EVEN, TURN, (1, 100), told), False)
            self.assertIs(shows_quickness(EVEN, ("even",), (1, 100), (value, (0, 1), None)), False)
        for value in (("broken", row(1)), ("broken", row(1, 1, 1)), ("broken",), ("holds", row(1, 1)), ("holds",)):
            self.assertIs(shows_holds(EVEN, TURN, (1, 3), value), False)
        for value in (("behind", True), ("behind", (1, 1)), ("behind", -1), ("behind", 1, 1), ("never", row(1, -1))):
            self.assertIs(shows_finite(EVEN, ("even",), value), False)
        # False is not 0.
        self.assertIs(shows_finite(EVEN, ("idle",), ("behind", False)), False)
        self.assertIs(shows_quickness(EVEN, ("even",), (1, 2), ((False, 1), (0, 1), None)), False)
        self.assertIs(shows_quickness(EVEN, ("even",), (1, 2), ((0, 1), (0, True), None)), False)

    def test_any_value(self):
        for circuit, dice, script in cases(6):
            right = [holds(circuit, script, (1, 2)), finite(circuit, script)]
            for value in any_values(circuit, "holds", "broken", "behind", "never"):
                self.assertIs(shows_holds(circuit, script, (1, 2), value), value == right[0])
                shown = shows_finite(circuit, script, value)
                self.assertIs(shown, value == right[1] and type(value[1]) is not bool)
                self.assertIs(shows_quickness(circuit, script, (1, 2), value), False)


class Wrong(Refusing):
    def calls(self, script, number):
        for function in (holds, quickness):
            yield function, EVEN, script, number
        for function in (shows_holds, shows_quickness):
            yield function, EVEN, script, number, None
        yield finite, EVEN, script
        yield shows_finite, EVEN, script, None

    def test_bad_script_then_empty(self):
        for number in ((1, 2), None, (-1, 2)):
            for script, told in wrong_scripts("even", EVEN):
                for call in self.calls(script, number):
                    self.refused_as_told(BadScript, told, *call)
            for call in self.calls((), number):
                self.refused_as_told(Empty, None, *call)

    def test_bad_rate(self):
        for value in NO_FRACTIONS + BELOW_NOUGHT + [EVEN, "holds"]:
            self.refused(BadRate, value, holds, EVEN, TURN, value)
            self.refused(BadRate, value, shows_holds, EVEN, TURN, value, ("holds",))
        self.assertEqual(holds(EVEN, ("idle",), (0, 1)), ("holds",))

    def test_bad_within(self):
        for value in NO_FRACTIONS + BELOW_NOUGHT + [EVEN, (0, 1)]:
            self.refused(BadWithin, value, quickness, EVEN, TURN, value)
            self.refused(BadWithin, value, shows_quickness, EVEN, ("even",), value, ((0, 1), (0, 1), None))

    def test_by_name(self):
        self.assertEqual(holds(rate=(1, 2), script=TURN, circuit=EVEN), ("holds",))
        self.assertIs(shows_holds(value=("holds",), rate=(1, 2), script=TURN, circuit=EVEN), True)
        self.assertEqual(quickness(within=(1, 2), script=("even",), circuit=EVEN), ((0, 1), (0, 1), None))
        told = ((1, 4), (1, 2), row(1, 1))
        self.assertIs(shows_quickness(value=told, within=(1, 2), script=TURN, circuit=EVEN), True)
        self.assertEqual(finite(script=TWICE, circuit=EVEN), ("behind", 2))
        self.assertIs(shows_finite(value=("behind", 2), script=TWICE, circuit=EVEN), True)


if __name__ == "__main__":
    unittest.main()
