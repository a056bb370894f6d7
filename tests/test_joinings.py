"""Section 5: one joining; section 3 (a); section 2 where it tells of standings and of any value."""

import random
import unittest

from chargeturns.circuits import Circuit, with_source
from chargeturns.errors import BadRow, BadStanding, NoJoining, Unfit
from chargeturns.joinings import (
    does_fit, either_way, flow, joined, lost, potentials, shows_either_way, shows_potentials, square,
)
from tests.making import (
    NO_FRACTIONS, Refusing, all_cases, any_values, came_to_junctions, charges_between, fractions_of, free_of,
    is_told_fraction, pair, row, some_circuit, some_fraction, some_standing, spread_potentials, square_between, square_of,
    standing_that_fits,
)

CIRCUIT = Circuit("\n".join([
    "circuit", "source bat 6", "part x 1", "part y 2", "joining fill", "tie x bat gnd", "joining share",
    "tie x a gnd", "tie y a gnd", "joining row", "tie x m gnd", "tie y bat m", "joining loose", "tie x p q",
    "tie y s s", "joining idle",
]))
NONE, FULL = row(0, 0), row(6, 0)


def one_joining(*lines, sources=("source v 5", "source w -1/2")):
    return Circuit("\n".join(["circuit", *sources, "part a 1", "part b 2", "part c 1/3", "joining j", *lines]))


class Joined(unittest.TestCase):
    def test_of_the_document(self):
        self.assertEqual(joined(CIRCUIT, "share", joined(CIRCUIT, "fill", NONE)), row(2, 2))
        self.assertEqual(joined(CIRCUIT, "fill", joined(CIRCUIT, "share", NONE)), row(6, 0))
        self.assertEqual(joined(CIRCUIT, "loose", row(5, 7)), row(5, 0))
        self.assertEqual(flow(CIRCUIT, "row", NONE), row(4, 4))

    def test_by_position_and_by_name(self):
        self.assertEqual(joined(circuit=CIRCUIT, joining="share", standing=FULL), row(2, 2))
        self.assertEqual(flow(CIRCUIT, joining="share", standing=FULL), row(-4, 4))
        self.assertEqual(lost(CIRCUIT, standing=FULL, joining="share"), (24, 1))
        self.assertEqual(square(row=FULL, circuit=CIRCUIT), (36, 1))
        self.assertIs(does_fit(standing=FULL, joining="fill", circuit=CIRCUIT), True)
        self.assertEqual(potentials(standing=row(3, 3), joining="share", circuit=CIRCUIT), (("a", (3, 1)),))
        shown = shows_potentials(value=(("a", (3, 1)),), standing=row(3, 3), joining="share", circuit=CIRCUIT)
        self.assertIs(shown, True)
        self.assertEqual(either_way(second="loose", first="fill", circuit=CIRCUIT), ("alike",))
        self.assertIs(shows_either_way(value=("alike",), second="loose", first="fill", circuit=CIRCUIT), True)

    def test_nothing_tied(self):
        circuit = one_joining()
        start = row(1, "-2/3", 7)
        self.assertEqual(joined(circuit, "j", start), start)
        self.assertEqual(flow(circuit, "j", start), row(0, 0, 0))
        self.assertEqual(lost(circuit, "j", start), (0, 1))
        self.assertIs(does_fit(circuit, "j", start), True)
        self.assertEqual(potentials(circuit, "j", start), ())

    def test_between_two_sources(self):
        circuit = one_joining("tie a v w", "tie b w v", "tie c gnd v")
        self.assertEqual(joined(circuit, "j", row(1, 2, 3)), row("11/2", "-11/2", -5))
        self.assertEqual(joined(circuit, "j", row("11/2", "-11/2", -5)), row("11/2", "-11/2", -5))

    def test_both_ends_at_one_junction(self):
        circuit = one_joining("tie a v v", "tie b gnd gnd", "tie c x x")
        self.assertEqual(joined(circuit, "j", row(1, 2, 3)), row(0, 0, 0))
        self.assertEqual(lost(circuit, "j", row(1, 2, 3)), (12, 1))

    def test_an_end_alone_at_a_free_junction(self):
        circuit = one_joining("tie a v x", "tie b y gnd", "tie c z zz")
        start = row(1, 2, 3)
        self.assertEqual(joined(circuit, "j", start), start)
        self.assertEqual(potentials(circuit, "j", start)[:2], (("x", (4, 1)), ("y", (2, 1))))

    def test_behind_one_another(self):
        circuit = one_joining("tie a v x", "tie b x y", "tie c y gnd")
        # The same charge comes to all three: 5 volts over 1 + 1/2 + 3.
        self.assertEqual(joined(circuit, "j", row(0, 0, 0)), row("10/9", "5/9", "10/3"))
        self.assertEqual(flow(circuit, "j", row(0, 0, 0)), row("10/9", "10/9", "10/9"))

    def test_a_loop_that_hangs_on_nothing(self):
        circuit = one_joining("tie a x y", "tie b y z", "tie c z x")
        # Around the loop the voltages add up to 0; the same charge comes to all three.
        self.assertEqual(joined(circuit, "j", row(9, 0, 0)), row(7, -1, -6))
        self.assertEqual(joined(circuit, "j", row(1, 1, -2)), row(1, 1, -2))
        self.assertTrue(shows_potentials(circuit, "j", row(1, 1, -2), (("x", (2, 1)), ("y", (1, 1)), ("z", (0, 1)))))
        self.assertTrue(shows_potentials(circuit, "j", row(1, 1, -2), (("x", (7, 3)), ("y", (4, 3)), ("z", (1, 3)))))
        self.assertFalse(shows_potentials(circuit, "j", row(1, 1, -2), (("x", (2, 1)), ("y", (1, 1)), ("z", (1, 1)))))

    def test_side_by_side_turned_about(self):
        circuit = one_joining("tie a x gnd", "tie b gnd x")
        self.assertEqual(joined(circuit, "j", row(3, 3, 8)), row(-1, 1, 8))

    def test_one_name_for_a_part_a_joining_and_a_free_junction(self):
        circuit = Circuit("circuit\nsource v 1\npart a 1\npart b 1\njoining a\ntie a a gnd\ntie b a gnd")
        self.assertEqual(joined(circuit, "a", row(4, 0)), row(2, 2))
        self.assertEqual(potentials(circuit, "a", row(4, 4)), (("a", (4, 1)),))

    def test_free_junctions_belong_to_one_joining_alone(self):
        circuit = Circuit("circuit\npart a 1\npart b 1\njoining j\ntie a x gnd\njoining k\ntie b x gnd")
        self.assertEqual(joined(circuit, "k", joined(circuit, "j", row(4, 2))), row(4, 2))

    def test_a_part_named_as_a_source_is_no_source(self):
        circuit = Circuit("circuit\npart v 1\npart b 1\njoining j\ntie b v gnd\ntie v v gnd")
        self.assertEqual(joined(circuit, "j", row(4, 0)), row(2, 2))

    def test_what_is_told_may_be_handed_in_again(self):
        circuit = some_circuit(7)
        standing = row(*[f"{10 ** 300 + k}/{3 ** 400 + k}" for k in range(len(circuit))])
        for joining, ties in circuit.joinings:
            behind = joined(circuit, joining, standing)
            self.assertIsNotNone(spread_potentials(circuit, ties, behind))
            self.assertEqual(joined(circuit, joining, behind), behind)
            self.assertEqual(lost(circuit, joining, standing), pair(square_between(circuit, standing, behind)))


class Promises(unittest.TestCase):
    """FOR ALL circuits, joinings and standings, as far as the tests make them."""

    def test_behind_a_joining(self):
        for circuit, joining, ties, standing in all_cases(240):
            with self.subTest(text=circuit.text, joining=joining, standing=standing):
                behind = joined(circuit, joining, standing)
                self.assertTrue(all(is_told_fraction(number) for number in behind))
                self.assertIsNotNone(spread_potentials(circuit, ties, behind))
                came = came_to_junctions(circuit, ties, charges_between(circuit, standing, behind))
                self.assertEqual([came[free] for free in free_of(circuit, ties)], [0] * len(free_of(circuit, ties)))
                tied = [part for part, _, _ in ties]
                untied = [at for at, (name, _) in enumerate(circuit.parts) if name not in tied]
                self.assertEqual([behind[at] for at in untied], [standing[at] for at in untied])
                self.assertEqual(joined(circuit, joining, behind), behind)
                self.assertEqual(lost(circuit, joining, behind), (0, 1))
                self.assertIs(does_fit(circuit, joining, behind), True)

    def test_does_fit(self):
        answers = []
        for circuit, joining, ties, standing in all_cases(240):
            dice = random.Random(len(circuit.text))
            fitting = standing_that_fits(dice, circuit, ties)
            self.assertIs(does_fit(circuit, joining, fitting), True)
            at = dice.randrange(len(circuit))
            nearly = fitting[:at] + (pair(fractions_of(fitting)[at] + some_fraction(dice)),) + fitting[at + 1:]
            for tried in (standing, nearly):
                answers.append(does_fit(circuit, joining, tried))
                self.assertIs(answers[-1], spread_potentials(circuit, ties, tried) is not None)
        self.assertGreater(answers.count(False), 200)
        self.assertGreater(answers.count(True), 200)

    def test_nearest_of_all_that_fit(self):
        for circuit, joining, ties, standing in all_cases(240):
            behind = joined(circuit, joining, standing)
            for seed in range(2):
                fitting = standing_that_fits(random.Random(seed), circuit, ties)
                ahead = square_between(circuit, standing, fitting)
                less = square_between(circuit, behind, fitting)
                self.assertEqual(lost(circuit, joining, standing), pair(ahead - less))

    def test_flow_lost_and_square(self):
        for circuit, joining, _, standing in all_cases(120):
            behind = joined(circuit, joining, standing)
            charges = charges_between(circuit, standing, behind)
            self.assertEqual(flow(circuit, joining, standing), row(*charges))
            self.assertEqual(lost(circuit, joining, standing), pair(square_between(circuit, standing, behind)))
            self.assertEqual(square(circuit, standing), pair(square_of(circuit, fractions_of(standing))))

    def test_what_the_sources_gave(self):
        for circuit, joining, ties, standing in all_cases(240):
            behind = joined(circuit, joining, standing)
            charges = fractions_of(flow(circuit, joining, standing))
            came = came_to_junctions(circuit, ties, charges)
            given = sum(came[name] * fractions_of([voltage])[0] for name, voltage in circuit.sources)
            self.assertEqual(sum(a * b for a, b in zip(charges, fractions_of(behind))), given)
            squares = fractions_of([square(circuit, standing), square(circuit, behind), lost(circuit, joining, standing)])
            self.assertEqual(squares[1], squares[0] + 2 * given - squares[2])

    def test_free_junctions_called_otherwise(self):
        for circuit, joining, ties, standing in all_cases(120):
            free = free_of(circuit, ties)
            new = dict(zip(free, reversed([f"q{letter}" for letter in "abcdefghijklmnop"[:len(free)]])))
            ties_lines = [f"tie {part} {new.get(plus, plus)} {new.get(less, less)}" for part, plus, less in ties]
            called = Circuit("\n".join(self.head(circuit) + [f"joining {joining}"] + ties_lines))
            self.assertEqual(joined(called, joining, standing), joined(circuit, joining, standing))
            self.assertEqual(lost(called, joining, standing), lost(circuit, joining, standing))

    def test_parts_turned_about(self):
        for circuit, joining, ties, standing in all_cases(120):
            dice = random.Random(len(circuit.text))
            signs = {name: dice.choice((1, -1)) for name, _ in circuit.parts}
            turned = [tie if signs[tie[0]] == 1 else (tie[0], tie[2], tie[1]) for tie in ties]
            lines = self.head(circuit) + [f"joining {joining}"] + [f"tie {' '.join(tie)}" for tie in turned]
            other = Circuit("\n".join(lines))
            start = self.turned(circuit, signs, standing)
            behind = self.turned(circuit, signs, joined(circuit, joining, standing))
            self.assertEqual(joined(other, joining, start), behind)
            self.assertEqual(lost(other, joining, start), lost(circuit, joining, standing))

    def test_equal_calls_equal_results(self):
        for circuit, joining, _, standing in all_cases(40):
            same = Circuit(circuit.text)
            self.assertEqual(joined(circuit, joining, standing), joined(same, joining, standing))
            behind = joined(circuit, joining, standing)
            self.assertEqual(potentials(circuit, joining, behind), potentials(same, joining, behind))
            other = circuit.joinings[0][0]
            self.assertEqual(either_way(circuit, joining, other), either_way(same, joining, other))

    def head(self, circuit):
        return circuit.text.split("\n")[:1 + len(circuit.sources) + len(circuit.parts)]

    def turned(self, circuit, signs, standing):
        numbers = zip(circuit.parts, fractions_of(standing))
        return row(*[number * signs[name] for (name, _), number in numbers])


class Potentials(unittest.TestCase):
    def test_any_that_fit(self):
        for circuit, joining, ties, standing in all_cases(160):
            fitting = standing_that_fits(random.Random(len(circuit.text)), circuit, ties)
            for tried in (fitting, joined(circuit, joining, standing)):
                told = potentials(circuit, joining, tried)
                self.assertEqual([name for name, _ in told], free_of(circuit, ties))
                self.assertTrue(all(type(entry) is tuple and is_told_fraction(entry[1]) for entry in told))
                self.assertIs(shows_potentials(circuit, joining, tried, told), True)
                along = spread_potentials(circuit, ties, tried)
                other = tuple((name, pair(along[name])) for name in free_of(circuit, ties))
                self.assertIs(shows_potentials(circuit, joining, tried, other), True)

    def test_shown_as_going_along_the_ties_tells(self):
        for circuit, joining, ties, standing in all_cases(80):
            dice = random.Random(len(circuit.text))
            behind = joined(circuit, joining, standing)
            told = list(potentials(circuit, joining, behind))
            voltage = dict(zip([name for name, _ in circuit.parts], fractions_of(behind)))
            for at, (name, number) in enumerate(told):
                moved = told[:at] + [(name, pair(fractions_of([number])[0] + 1 + dice.randint(0, 2)))] + told[at + 1:]
                known = {"gnd": 0, **{name: fractions_of([volts])[0] for name, volts in circuit.sources}}
                known.update({name: fractions_of([volts])[0] for name, volts in moved})
                right = all(known[plus] - known[less] == voltage[part] for part, plus, less in ties)
                self.assertIs(shows_potentials(circuit, joining, behind, tuple(moved)), right)

    def test_wrong_forms(self):
        right = (("p", (5, 1)), ("q", (0, 1)), ("s", (2, 1)))
        self.assertIs(shows_potentials(CIRCUIT, "loose", row(5, 0), right), True)
        wrong = [
            list(right), right[:2], right + (("t", (0, 1)),), right + (("gnd", (0, 1)),), right[::-1], dict(right),
            (("p", (5, 1)), ("s", (2, 1)), ("q", (0, 1))), (["p", (5, 1)],) + right[1:], (("p", [5, 1]),) + right[1:],
            (("p", (10, 2)),) + right[1:], (("p", 5),) + right[1:], (("p", "5"),) + right[1:], ("p",) + right[1:],
            (("p",),) + right[1:], (("p", (5, 1), 0),) + right[1:], (("p", (5, True)),) + right[1:],
            right[:1] + (("q", (False, 1)),) + right[2:], right[:1] + (("q", (0, True)),) + right[2:],
            right[:1] + (("q", (0, -1)),) + right[2:], right[:1] + (("q", (0, 2)),) + right[2:],
            (("x", (5, 1)),) + right[1:], ((None, (5, 1)),) + right[1:], ((CIRCUIT, (5, 1)),) + right[1:],
            (right,), (right, right, right), "pqs", (("bat", (6, 1)),) + right,
        ]
        for value in wrong:
            self.assertIs(shows_potentials(CIRCUIT, "loose", row(5, 0), value), False)
        for value in NO_FRACTIONS:
            self.assertIs(shows_potentials(CIRCUIT, "loose", row(5, 0), right[:2] + (("s", value),)), False)
        self.assertIs(shows_potentials(CIRCUIT, "fill", FULL, ()), True)
        self.assertIs(shows_potentials(CIRCUIT, "fill", FULL, []), False)
        self.assertIs(shows_potentials(CIRCUIT, "fill", FULL, (("bat", (6, 1)),)), False)

    def test_any_value(self):
        for seed in range(40):
            circuit = some_circuit(seed)
            for joining, ties in circuit.joinings:
                behind = joined(circuit, joining, some_standing(random.Random(seed), circuit))
                for value in any_values(circuit):
                    shown = shows_potentials(circuit, joining, behind, value)
                    self.assertIs(type(shown), bool)
                    if value == () or type(value) is not tuple:
                        self.assertIs(shown, value == () and free_of(circuit, ties) == [])


class EitherWay(unittest.TestCase):
    def test_over_many_circuits(self):
        answers = []
        for seed in range(200):
            circuit = some_circuit(seed)
            names = [name for name, _ in circuit.joinings]
            for first in names[:3]:
                for second in names[:3]:
                    told = either_way(circuit, first, second)
                    answers.append(told[0])
                    self.check(circuit, first, second, told)
        self.assertGreater(answers.count("alike"), 100)
        self.assertGreater(answers.count("unlike"), 100)

    def check(self, circuit, first, second, told):
        self.assertIs(shows_either_way(circuit, first, second, told), True)
        starts = [some_standing(random.Random(seed), circuit) for seed in range(2)]
        if told[0] == "alike":
            self.assertEqual(told, ("alike",))
            for start in starts:
                self.assertTrue(self.is_alike(circuit, first, second, start))
                self.assertIs(shows_either_way(circuit, first, second, ("unlike", start)), False)
        else:
            self.assertEqual(len(told), 2)
            self.assertFalse(self.is_alike(circuit, first, second, told[1]))
            self.assertIs(shows_either_way(circuit, first, second, ("alike",)), False)
            for start in starts:
                alike = self.is_alike(circuit, first, second, start)
                self.assertIs(shows_either_way(circuit, first, second, ("unlike", start)), not alike)

    def is_alike(self, circuit, first, second, start):
        one = joined(circuit, second, joined(circuit, first, start))
        return one == joined(circuit, first, joined(circuit, second, start))

    def test_a_joining_with_itself(self):
        for seed in range(60):
            circuit = some_circuit(seed)
            for name, _ in circuit.joinings:
                self.assertEqual(either_way(circuit, name, name), ("alike",))

    def test_unlike_by_sources_alone(self):
        lines = ["circuit", "source v 1", "source w 2", "part a 1", "joining j", "tie a v gnd", "joining k", "tie a w gnd"]
        circuit = Circuit("\n".join(lines))
        self.assertEqual(either_way(circuit, "j", "k")[0], "unlike")
        self.assertIs(shows_either_way(circuit, "j", "k", ("unlike", row(77))), True)
        self.assertEqual(either_way(with_source(circuit, "w", (1, 1)), "j", "k"), ("alike",))

    def test_a_standing_that_does_not_show_it(self):
        # Where both have 6 already, neither fill nor share changes anything.
        self.assertIs(shows_either_way(CIRCUIT, "fill", "share", ("unlike", row(6, 6))), False)
        self.assertIs(shows_either_way(CIRCUIT, "share", "fill", ("unlike", row(6, 6))), False)
        for standing in (row(6, 5), row(5, 6), row(0, 6)):
            self.assertIs(shows_either_way(CIRCUIT, "fill", "share", ("unlike", standing)), True)
        circuit = Circuit("circuit\npart a 1\npart b 1\njoining j\ntie a x gnd\ntie b x gnd\njoining k\ntie a gnd gnd")
        for numbers in ((0, 0), (1, 0), (0, 1), (2, 2), (1, -1), (0, "1/3")):
            alike = self.is_alike(circuit, "j", "k", row(*numbers))
            self.assertIs(alike, numbers == (0, 0))
            self.assertIs(shows_either_way(circuit, "j", "k", ("unlike", row(*numbers))), not alike)

    def test_unlike_at_one_part_alone(self):
        for part in range(8):
            # All parts but one stand apart, so that noughts and most standings show nothing.
            ties = [f"tie {'abcdefgh'[part]} x gnd", f"tie {'abcdefgh'[(part + 1) % 8]} x gnd"]
            lines = ["circuit"] + [f"part {letter} 1" for letter in "abcdefgh"] + ["joining j"] + ties
            circuit = Circuit("\n".join(lines + ["joining k", f"tie {'abcdefgh'[part]} gnd gnd"]))
            self.assertEqual(either_way(circuit, "j", "k")[0], "unlike")

    def test_wrong_forms(self):
        wrong = [
            ("unlike",), ("unlike", NONE, NONE), ["unlike", NONE], ("unlike", list(NONE)), ("unlike", None),
            ("unlike", ((0, 1),)), ("unlike", NONE + ((0, 1),)), ("unlike", ((0, True), (0, 1))), ("Unlike", NONE),
            ("unlike", ((False, 1), (0, 1))), ("unlike", ((0, 2), (0, 1))), ("unlike", ([0, 1], (0, 1))), (NONE,),
            ("unlike", (0, 0)), ("alike",), ("alike", NONE), "unlike", ("apart", NONE), (None, NONE), NONE,
            (CIRCUIT, NONE), ("unlike", CIRCUIT),
        ]
        self.assertIs(shows_either_way(CIRCUIT, "fill", "share", ("unlike", NONE)), True)
        for value in wrong:
            self.assertIs(shows_either_way(CIRCUIT, "fill", "share", value), False)
        for value in NO_FRACTIONS:
            self.assertIs(shows_either_way(CIRCUIT, "fill", "share", ("unlike", ((0, 1), value))), False)
        for value in (["alike"], "alike", ("alike", NONE), ("unlike", NONE), (), ("alike", "alike"), True, None):
            self.assertIs(shows_either_way(CIRCUIT, "fill", "loose", value), False)

    def test_any_value(self):
        for seed in range(40):
            circuit = some_circuit(seed)
            first, second = circuit.joinings[0][0], circuit.joinings[-1][0]
            told = either_way(circuit, first, second)
            for value in any_values(circuit) + [("alike",)]:
                shown = shows_either_way(circuit, first, second, value)
                self.assertIs(type(shown), bool)
                if type(value) is not tuple or len(value) != 2:
                    self.assertIs(shown, value == ("alike",) and told == ("alike",))


NO_JOININGS = ["x", "bat", "gnd", "", "Fill", "fill ", "nope", None, 0, True, (), ("fill",), ["fill"], {}, CIRCUIT]
NO_ROWS = [
    None, 0, True, "", "00", (), ((0, 1),), ((0, 1),) * 3, [(0, 1), (0, 1)], ([0, 1], (0, 1)), (0, 0), ("0", "0"),
    {(0, 1): 1}, CIRCUIT, ((0, 1), None),
] + [((0, 1), value) for value in NO_FRACTIONS] + [(value, (0, 1)) for value in NO_FRACTIONS]


class Wrong(Refusing):
    def test_no_joining(self):
        for value in NO_JOININGS:
            for function in (does_fit, joined, flow, lost, potentials):
                self.refused(NoJoining, value, function, CIRCUIT, value, NONE)
                self.refused(NoJoining, value, function, CIRCUIT, value, None)
            self.refused(NoJoining, value, shows_potentials, CIRCUIT, value, NONE, ())
            self.refused(NoJoining, value, shows_potentials, CIRCUIT, value, None, None)

    def test_bad_standing(self):
        for value in NO_ROWS:
            for function in (does_fit, joined, flow, lost, potentials):
                self.refused(BadStanding, value, function, CIRCUIT, "share", value)
            self.refused(BadStanding, value, shows_potentials, CIRCUIT, "share", value, ())

    def test_bad_row(self):
        for value in NO_ROWS:
            self.refused(BadRow, value, square, CIRCUIT, value)

    def test_unfit(self):
        for standing, joining in ((FULL, "share"), (NONE, "fill"), (row(0, "1/2"), "loose"), (row(4, "5/2"), "row")):
            self.refused(Unfit, standing, potentials, CIRCUIT, joining, standing)
            for value in ((), None, (("a", (6, 1)),)):
                self.refused(Unfit, standing, shows_potentials, CIRCUIT, joining, standing, value)
        for circuit, joining, ties, standing in all_cases(60):
            if spread_potentials(circuit, ties, standing) is None:
                self.refused(Unfit, standing, potentials, circuit, joining, standing)
                self.refused(Unfit, standing, shows_potentials, circuit, joining, standing, ())

    def test_either_way_asks_for_first_then_second(self):
        for value in NO_JOININGS:
            self.refused(NoJoining, value, either_way, CIRCUIT, value, "fill")
            self.refused(NoJoining, value, either_way, CIRCUIT, "fill", value)
            self.refused(NoJoining, value, shows_either_way, CIRCUIT, value, "fill", ("alike",))
            self.refused(NoJoining, value, shows_either_way, CIRCUIT, "fill", value, None)
        self.refused(NoJoining, "one", either_way, CIRCUIT, "one", "two")
        self.refused(NoJoining, "one", shows_either_way, CIRCUIT, "one", ["two"], ("alike",))

    def test_nothing_changes(self):
        told = (CIRCUIT.text, CIRCUIT.sources, CIRCUIT.parts, CIRCUIT.joinings)
        self.refused(Unfit, FULL, potentials, CIRCUIT, "share", FULL)
        joined(CIRCUIT, "share", FULL)
        either_way(CIRCUIT, "fill", "share")
        self.assertEqual((CIRCUIT.text, CIRCUIT.sources, CIRCUIT.parts, CIRCUIT.joinings), told)


if __name__ == "__main__":
    unittest.main()
