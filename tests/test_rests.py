"""Section 7: rests and lots; section 3 (c) and (d); section 1 where it tells of rests; section 4 where it does."""

import random
import unittest
from fractions import Fraction

from chargeturns.circuits import Circuit, grounded, with_size, with_source
from chargeturns.errors import BadLot, BadStanding, NoPart, NoRest
from chargeturns.joinings import does_fit
from chargeturns.rests import (
    any_rest, draws, hangs, left, one_rest, rest, shows_any_rest, shows_hangs, shows_one_rest,
)
from chargeturns.scripts import behind, losses, run
from chargeturns.sums import kept_rows, sum_of
from tests.making import (
    NO_FRACTIONS, NO_ROWS_OF_TWO, Refusing, any_values, called_otherwise, circuits_of_both_kinds, fractions_of,
    is_told_fraction, pair, row, some_circuit, some_pump, some_script, some_signs, some_size, some_standing,
    square_between, turned_about, with_signs,
)
from tests.reckoning import along, does_fit_all, drawn_by, is_fitted_by_one, names_of, with_kept

PUMP = Circuit("\n".join([
    "circuit", "source in 1", "part a 1", "part b 3", "joining load", "tie a in gnd",
    "joining pour", "tie a x gnd", "tie b x gnd",
]))
PAIR = Circuit("circuit\npart a 1\npart b 3\njoining pour\ntie a x gnd\ntie b x gnd")
TORN = Circuit("\n".join([
    "circuit", "source one 1", "source two 2", "part a 5", "joining p", "tie a one gnd", "joining q", "tie a two gnd",
]))
TORN_LOT = (("p", row(1)), ("q", row(-1)))
# Around over four joinings: a as b, b as c, but a above c by d, which is to have 2.
RING = Circuit("\n".join([
    "circuit", "source up 2", "part a 1", "part b 2", "part c 3", "part d 1",
    "joining ab", "tie a x gnd", "tie b x gnd", "joining bc", "tie b x gnd", "tie c x gnd",
    "joining ca", "tie a x gnd", "tie c y gnd", "tie d x y", "joining d", "tie d up gnd",
]))
THREE = Circuit("\n".join([
    "circuit", "source u 1", "source v 2", "source w 4", "part a 5", "part b 1", "joining u", "tie a u gnd",
    "joining v", "tie a v gnd", "joining idle", "joining w", "tie a gnd w",
]))


def with_rest(many):
    found = [circuit for circuit in circuits_of_both_kinds(many) if is_fitted_by_one(circuit, names_of(circuit))]
    return [(circuit, random.Random(len(circuit.text))) for circuit in found]


def without_rest(many):
    return [circuit for circuit in circuits_of_both_kinds(many) if not is_fitted_by_one(circuit, names_of(circuit))]


def multiple(lot, factor):
    return tuple((joining, row(*[factor * number for number in fractions_of(told)])) for joining, told in lot)


def added(one, other):
    rows = [[a + b for a, b in zip(fractions_of(p), fractions_of(q))] for (_, p), (_, q) in zip(one, other)]
    return tuple((joining, row(*numbers)) for (joining, _), numbers in zip(one, rows))


class RestOrLot(Refusing):
    def test_of_the_document(self):
        self.assertEqual(any_rest(PUMP), ("rest", row(1, 1)))
        self.assertEqual(left(PUMP, row(0, 0)), (4, 1))
        self.assertEqual(draws(TORN, TORN_LOT), (-1, 1))
        # Each other lot is so many times this one.
        told = any_rest(TORN)
        charge = fractions_of(told[1][0][1])[0]
        self.assertEqual(told, ("lot", multiple(TORN_LOT, charge)))

    def test_just_one_of_both(self):
        kinds = []
        for circuit in circuits_of_both_kinds(240):
            told = any_rest(circuit)
            kinds.append(told[0])
            self.assertEqual((type(told), len(told)), (tuple, 2))
            self.assertIs(told[0] == "rest", is_fitted_by_one(circuit, names_of(circuit)))
            self.assertIs(shows_any_rest(circuit, told), True)
            self.assertEqual(any_rest(Circuit(circuit.text)), told)
            self.check_rest(circuit, told[1]) if told[0] == "rest" else self.check_lot(circuit, told[1])
        self.assertGreater(kinds.count("rest"), 150)
        self.assertGreater(kinds.count("lot"), 150)

    def check_rest(self, circuit, standing):
        self.assertTrue(does_fit_all(circuit, names_of(circuit), standing))
        self.assertTrue(all(is_told_fraction(number) for number in standing))

    def check_lot(self, circuit, lot):
        self.assertTrue(all(type(entry) is tuple and type(entry[1]) is tuple for entry in lot))
        self.assertTrue(all(is_told_fraction(number) for _, told in lot for number in told))
        drawn = drawn_by(circuit, lot)
        self.assertTrue(drawn)
        self.assertEqual(draws(circuit, lot), pair(drawn))
        standing = some_standing(random.Random(1), circuit)
        self.assertIs(shows_any_rest(circuit, ("rest", standing)), False)

    def test_any_rest_shows_it(self):
        for circuit, dice in with_rest(120):
            found = with_kept(dice, any_rest(circuit)[1], kept_rows(circuit))
            self.assertIs(shows_any_rest(circuit, ("rest", found)), True)
            standing = some_standing(dice, circuit)
            fits = does_fit_all(circuit, names_of(circuit), standing)
            self.assertIs(shows_any_rest(circuit, ("rest", standing)), fits)
            rows = tuple((joining, row(*[0] * len(circuit))) for joining in names_of(circuit))
            self.assertIs(shows_any_rest(circuit, ("lot", rows)), False)
            self.refused(BadLot, rows, draws, circuit, rows)

    def test_sources_at_0_or_none(self):
        for circuit in circuits_of_both_kinds(60):
            flat = grounded(circuit)
            self.assertEqual(any_rest(flat)[0], "rest")
            self.assertIs(shows_any_rest(flat, ("rest", row(*[0] * len(circuit)))), True)
        for circuit in without_rest(60):
            # What draws from these sources draws nothing when they have 0.
            lot = any_rest(circuit)[1]
            self.assertIs(shows_any_rest(grounded(circuit), ("lot", lot)), False)
            self.refused(BadLot, lot, draws, grounded(circuit), lot)

    def test_lots_turned_added_and_multiplied(self):
        for circuit in without_rest(120):
            lot = any_rest(circuit)[1]
            drawn = drawn_by(circuit, lot)
            for factor in (-1, Fraction(5, 3), Fraction(-1, 2), 12):
                self.assertEqual(draws(circuit, multiple(lot, factor)), pair(drawn * factor))
            self.assertEqual(draws(circuit, added(lot, multiple(lot, 2))), pair(3 * drawn))
            for nothing in (multiple(lot, 0), added(lot, multiple(lot, -1))):
                self.refused(BadLot, nothing, draws, circuit, nothing)
                self.assertIs(shows_any_rest(circuit, ("lot", nothing)), False)

    def test_unlike_lots_added(self):
        nothing = row(0, 0)
        one = (("u", row(1, 0)), ("v", row(-1, 0)), ("idle", nothing), ("w", nothing))
        other = (("u", nothing), ("v", row(1, 0)), ("idle", nothing), ("w", row(-1, 0)))
        self.assertEqual([draws(THREE, one), draws(THREE, other)], [(-1, 1), (6, 1)])
        self.assertEqual(draws(THREE, added(one, other)), (5, 1))
        self.assertEqual(draws(THREE, added(multiple(one, 3), multiple(other, Fraction(1, 3)))), (-1, 1))
        even = added(multiple(one, 6), other)
        self.assertIsNone(drawn_by(THREE, even))
        self.refused(BadLot, even, draws, THREE, even)
        self.assertIs(shows_any_rest(THREE, ("lot", even)), False)
        # A joining that gives and takes nothing has its row, too.
        for short in (one[:2], one[:3], one[:2] + one[3:], other[1:]):
            self.refused(BadLot, short, draws, THREE, short)
            self.assertIs(shows_any_rest(THREE, ("lot", short)), False)

    def test_a_ring_over_several_joinings(self):
        told = any_rest(RING)
        self.assertEqual(told[0], "lot")
        self.assertEqual([joining for joining, _ in told[1]], ["ab", "bc", "ca", "d"])
        self.assertTrue(all(any(fractions_of(charges)) for _, charges in told[1]))
        lot = (("ab", row(1, -1, 0, 0)), ("bc", row(0, 1, -1, 0)), ("ca", row(-1, 0, 1, 1)), ("d", row(0, 0, 0, -1)))
        self.assertEqual(draws(RING, lot), (-2, 1))
        # Without the source the ring holds: all alike, and nothing between a and c.
        self.assertEqual(any_rest(with_source(RING, "up", (0, 1)))[0], "rest")

    def test_whatever_the_sizes(self):
        for circuit in circuits_of_both_kinds(60):
            dice, other = random.Random(7), circuit
            for name, _ in circuit.parts:
                other = with_size(other, name, pair(some_size(dice)))
            told = any_rest(circuit)
            self.assertEqual(any_rest(other)[0], told[0])
            self.assertIs(shows_any_rest(other, told), True)

    def test_a_source_more_that_no_joining_names(self):
        for circuit in circuits_of_both_kinds(60):
            if len(circuit.sources) < 4:
                other = Circuit(circuit.text.replace("circuit\n", "circuit\nsource qqqqqq 7\n", 1))
                self.assertEqual(any_rest(other), any_rest(circuit))

    def test_wrong_lots(self):
        wrong = [
            TORN_LOT[::-1], TORN_LOT[:1], TORN_LOT + TORN_LOT, (TORN_LOT[0], TORN_LOT[0]),
            (("p", row(1)), ("q", row(1))), (("p", row(1)), ("q", row(-2))), (("p", row(0)), ("q", row(0))),
            (("q", row(1)), ("p", row(-1))), (("p", row(1)), ("x", row(-1))), (("p", (1,)), ("q", (-1,))),
            (("p", row(1, 0)), ("q", row(-1, 0))), (("p", row(1)),), ("lot", TORN_LOT), "pq", None, 5, {}, TORN,
            dict(TORN_LOT), list(TORN_LOT), (),
        ]
        for lot in wrong:
            self.refused(BadLot, lot, draws, TORN, lot)
            self.assertIs(shows_any_rest(TORN, ("lot", lot)), False)
        self.refused_values(("lot", TORN_LOT), TORN, shows_any_rest, TORN)
        for value in NO_FRACTIONS:
            lot = (("p", (value,)), ("q", row(-1)))
            self.refused(BadLot, lot, draws, TORN, lot)

    def test_lots_that_miss_one_condition(self):
        lines = ["circuit", "source v 1", "part a 1", "part b 1", "joining j", "tie a v x", "tie b x gnd"]
        circuit = Circuit("\n".join(lines + ["joining k", "tie a gnd gnd", "joining l", "tie b gnd gnd"]))
        right = (("j", row(1, 1)), ("k", row(-1, 0)), ("l", row(0, -1)))
        self.assertEqual(draws(circuit, right), (1, 1))
        wrong = [
            # Something comes to the free junction x.
            (("j", row(1, 0)), ("k", row(-1, 0)), ("l", row(0, 0))),
            # A part that the joining does not tie.
            (("j", row(1, 1)), ("k", row(-1, -1)), ("l", row(0, 0))),
            # At one part all rows together are not 0.
            (("j", row(1, 1)), ("k", row(-1, 0)), ("l", row(0, 1))),
            # Nothing is drawn.
            (("j", row(0, 0)), ("k", row(0, 0)), ("l", row(0, 0))),
        ]
        for lot in wrong:
            self.refused(BadLot, lot, draws, circuit, lot)
            self.assertIs(shows_any_rest(circuit, ("lot", lot)), False)

    def test_wrong_rests(self):
        self.refused_values(("rest", row(1, 1)), PUMP, shows_any_rest, PUMP)
        self.refused_values(("rest", row(7, 7)), PAIR, shows_any_rest, PAIR)
        wrong = [("rest", row(1, 2)), ("rest", row(1)), ("rest", row(1, 1, 1)), ("lot", row(1, 1)), row(1, 1)]
        for value in wrong + [("rest",)] + [("rest", (number, (1, 1))) for number in NO_FRACTIONS]:
            self.assertIs(shows_any_rest(PUMP, value), False)
        self.assertIs(shows_any_rest(TORN, ("rest", row(1))), False)
        self.assertIs(shows_any_rest(TORN, ("rest", row(2))), False)

    def test_any_value(self):
        for seed in range(40):
            for circuit in (some_circuit(seed), some_pump(seed)):
                for value in any_values(circuit):
                    self.assertIs(shows_any_rest(circuit, value), False)


class Rest(Refusing):
    def test_of_the_document(self):
        self.assertEqual(rest(PAIR, row(4, 0)), row(1, 1))
        self.assertEqual(left(PAIR, row(4, 0)), (12, 1))
        self.assertEqual(rest(PUMP, row(77, -3)), row(1, 1))

    def test_the_nearest_that_fits_all_joinings(self):
        for circuit, dice in with_rest(160):
            start = some_standing(dice, circuit)
            told, kept = rest(circuit, start), kept_rows(circuit)
            self.assertIs(type(told), tuple)
            self.assertTrue(all(is_told_fraction(number) for number in told))
            self.assertTrue(does_fit_all(circuit, names_of(circuit), told))
            for numbers in kept:
                self.assertEqual(sum_of(circuit, numbers, told), sum_of(circuit, numbers, start))
            nearest = square_between(circuit, start, told)
            self.assertEqual(left(circuit, start), pair(nearest))
            other = with_kept(dice, told, kept)
            self.assertEqual(square_between(circuit, start, other), nearest + square_between(circuit, told, other))

    def test_all_scripts_lead_nearer_by_what_is_lost(self):
        for circuit, dice in with_rest(120):
            start = some_standing(dice, circuit)
            script = some_script(dice, circuit, dice.randint(0, 8))
            told = rest(circuit, start)
            standings = run(circuit, script, start)
            ways = [square_between(circuit, standing, told) for standing in standings]
            falls = [ahead - after for ahead, after in zip(ways, ways[1:])]
            self.assertEqual(falls, fractions_of(losses(circuit, script, start)))
            self.assertEqual(rest(circuit, standings[-1]), told)
            lost = sum(fractions_of(losses(circuit, script, start)))
            self.assertEqual(lost + Fraction(*left(circuit, standings[-1])), Fraction(*left(circuit, start)))

    def test_each_joining_again_and_again_leads_there(self):
        for circuit, dice in with_rest(100):
            start = some_standing(dice, circuit)
            told, names = rest(circuit, start), names_of(circuit)
            for _ in range(4):
                dice.shuffle(names)
                after = behind(circuit, tuple(names), start)
                if start != told:
                    self.assertLess(square_between(circuit, after, told), square_between(circuit, start, told))
                start = after

    def test_near_behind_40_joinings(self):
        for circuit, script in ((PUMP, ("load", "pour") * 20), (PUMP, ("pour", "pour", "load", "load") * 10)):
            after = behind(circuit, script, row(5, -7))
            self.assertLess(Fraction(*left(circuit, after)), Fraction(1, 2))
            again = behind(circuit, script, after)
            self.assertLess(Fraction(*left(circuit, again)), Fraction(1, 100))
            self.assertEqual(rest(circuit, again), row(1, 1))

    def test_starts_that_are_rests(self):
        for circuit, dice in with_rest(60):
            told = with_kept(dice, any_rest(circuit)[1], kept_rows(circuit))
            self.assertEqual(rest(circuit, told), told)
            self.assertEqual(left(circuit, told), (0, 1))
            script = some_script(dice, circuit, 5)
            self.assertEqual(run(circuit, script, told), (told,) * 6)

    def test_parts_that_no_joining_ties(self):
        circuit = Circuit(PUMP.text.replace("part b 3", "part c 2\npart b 3\npart d 1/2"))
        self.assertEqual(rest(circuit, row(0, 5, 0, "-1/3")), row(1, 5, 1, "-1/3"))
        self.assertEqual(left(circuit, row(0, 5, 0, "-1/3")), (4, 1))
        self.assertEqual(hangs(circuit, "c"), ("hangs", row(0, 1, 0, 0)))
        self.assertEqual(hangs(circuit, "b"), ("fixed", (1, 1)))
        idle = Circuit("circuit\nsource v 9\npart a 1\npart b 1\njoining j\njoining k")
        self.assertEqual(rest(idle, row(3, "1/7")), row(3, "1/7"))
        self.assertEqual(left(idle, row(3, "1/7")), (0, 1))

    def test_free_junctions_called_otherwise_and_parts_turned_about(self):
        for circuit, dice in with_rest(100):
            start, signs = some_standing(dice, circuit), some_signs(dice, circuit)
            told, less = rest(circuit, start), left(circuit, start)
            called, turned = called_otherwise(circuit), turned_about(circuit, signs)
            self.assertEqual([rest(called, start), left(called, start)], [told, less])
            turned_start = with_signs(signs, start)
            self.assertEqual([rest(turned, turned_start), left(turned, turned_start)], [with_signs(signs, told), less])
        for circuit in without_rest(60):
            signs = some_signs(random.Random(3), circuit)
            lot = any_rest(circuit)[1]
            turned = tuple((joining, with_signs(signs, told)) for joining, told in lot)
            self.assertEqual(draws(turned_about(circuit, signs), turned), draws(circuit, lot))
            self.assertEqual(draws(called_otherwise(circuit), lot), draws(circuit, lot))

    def test_great_numbers_handed_in_again(self):
        for circuit, dice in with_rest(60):
            start = behind(circuit, some_script(dice, circuit, 40), some_standing(dice, circuit))
            great = row(*[number * Fraction(10 ** 400 + 1, 7 ** 300) for number in fractions_of(start)])
            for standing in (start, great):
                told = rest(circuit, standing)
                self.assertTrue(does_fit_all(circuit, names_of(circuit), told))
                self.assertEqual(left(circuit, standing), pair(square_between(circuit, standing, told)))
                self.assertEqual(one_rest(circuit, standing, told), ("one",))
                self.assertIs(shows_any_rest(circuit, ("rest", told)), True)


class OneRest(Refusing):
    def test_over_many_circuits(self):
        answers = []
        for circuit, dice in with_rest(160):
            one = some_standing(dice, circuit)
            others = [one, some_standing(dice, circuit), behind(circuit, some_script(dice, circuit, 3), one)]
            for other in others + [along(rest(circuit, one), one, Fraction(dice.randint(-9, 9), 4))]:
                told = one_rest(circuit, one, other)
                answers.append(told[0])
                self.assertIs(told == ("one",), rest(circuit, one) == rest(circuit, other))
                self.assertEqual(one_rest(Circuit(circuit.text), one, other), told)
                self.assertIs(shows_one_rest(circuit, one, other, told), True)
                self.assertIs(shows_one_rest(circuit, one, other, ("one",)), told == ("one",))
                self.check_rows(circuit, dice, one, other, told)
        self.assertGreater(answers.count("one"), 200)
        self.assertGreater(answers.count("apart"), 60)

    def check_rows(self, circuit, dice, one, other, told):
        kept, nothing = kept_rows(circuit), row(*[0] * len(circuit))
        if told != ("one",):
            self.assertEqual((told[0], len(told)), ("apart", 2))
            self.assertTrue(all(does_fit(grounded(circuit), joining, told[1]) for joining in names_of(circuit)))
            self.assertNotEqual(sum_of(circuit, told[1], one), sum_of(circuit, told[1], other))
        for numbers in kept + (with_kept(dice, nothing, kept), nothing):
            unlike = sum_of(circuit, numbers, one) != sum_of(circuit, numbers, other)
            self.assertIs(shows_one_rest(circuit, one, other, ("apart", numbers)), unlike)
        loose = some_standing(dice, circuit)
        if not all(does_fit(grounded(circuit), joining, loose) for joining in names_of(circuit)):
            self.assertIs(shows_one_rest(circuit, one, other, ("apart", loose)), False)

    def test_wrong_forms(self):
        one, other = row(4, 0), row(0, 0)
        self.refused_values(("apart", row(1, 1)), PAIR, shows_one_rest, PAIR, one, other)
        self.refused_values(("apart", row("-2/3", "-2/3")), PAIR, shows_one_rest, PAIR, one, other)
        self.refused_values(("one",), PAIR, shows_one_rest, PAIR, one, row(1, 1))
        wrong = [("one",), ("apart",), ("apart", row(1, 0)), ("apart", row(0, 0)), ("one", row(1, 1))]
        for value in wrong + [("apart", row(1))] + [("apart", ((1, 1), number)) for number in NO_FRACTIONS]:
            self.assertIs(shows_one_rest(PAIR, one, other, value), False)

    def test_any_value(self):
        for circuit, dice in with_rest(30):
            one, other = some_standing(dice, circuit), some_standing(dice, circuit)
            for value in any_values(circuit) + [("one",)]:
                right = value == ("one",) == one_rest(circuit, one, other)
                self.assertIs(shows_one_rest(circuit, one, other, value), right)


class Hangs(Refusing):
    def test_over_many_circuits(self):
        answers = []
        for circuit, dice in with_rest(160):
            for place, (part, _) in enumerate(circuit.parts):
                told = hangs(circuit, part)
                answers.append(told[0])
                ends = [rest(circuit, some_standing(dice, circuit))[place] for _ in range(3)]
                self.assertEqual(hangs(Circuit(circuit.text), part), told)
                self.assertIs(shows_hangs(circuit, part, told), True)
                self.assertIs(told[0] == "fixed", len(set(ends)) == 1)
                self.assertIs(shows_hangs(circuit, part, ("fixed", ends[0])), told[0] == "fixed")
                if told[0] == "fixed":
                    self.assertEqual(told, ("fixed", ends[0]))
                    self.assertIs(shows_hangs(circuit, part, ("fixed", pair(fractions_of(ends)[0] + 1))), False)
                self.check_rows(circuit, dice, place, part)
        self.assertGreater(answers.count("fixed"), 100)
        self.assertGreater(answers.count("hangs"), 100)

    def check_rows(self, circuit, dice, place, part):
        kept, nothing = kept_rows(circuit), row(*[0] * len(circuit))
        for numbers in kept + (with_kept(dice, nothing, kept), nothing):
            self.assertIs(shows_hangs(circuit, part, ("hangs", numbers)), numbers[place] != (0, 1))
        loose = some_standing(dice, circuit)
        if not all(does_fit(grounded(circuit), joining, loose) for joining in names_of(circuit)):
            self.assertIs(shows_hangs(circuit, part, ("hangs", loose)), False)

    def test_wrong_forms(self):
        self.refused_values(("fixed", (1, 1)), PUMP, shows_hangs, PUMP, "b")
        self.refused_values(("hangs", row(2, 2)), PAIR, shows_hangs, PAIR, "a")
        for value in NO_FRACTIONS:
            self.assertIs(shows_hangs(PUMP, "b", ("fixed", value)), False)
            self.assertIs(shows_hangs(PAIR, "b", ("hangs", (value, (1, 1)))), False)
        for value in (("hangs", row(1, 0)), ("hangs", row(0, 0)), ("fixed", (1, 1)), ("hangs", row(1)), ("hangs",)):
            self.assertIs(shows_hangs(PAIR, "b", value), False)
        self.assertIs(shows_hangs(PUMP, "b", ("hangs", row(1, 1))), False)
        self.assertIs(shows_hangs(PUMP, "b", ("fixed", (2, 1))), False)

    def test_any_value(self):
        for circuit, _ in with_rest(30):
            for value in any_values(circuit):
                self.assertIs(shows_hangs(circuit, circuit.parts[0][0], value), False)


class Wrong(Refusing):
    def test_by_name(self):
        self.assertEqual(any_rest(circuit=PUMP), ("rest", row(1, 1)))
        self.assertIs(shows_any_rest(value=("rest", row(1, 1)), circuit=PUMP), True)
        self.assertEqual(draws(lot=TORN_LOT, circuit=TORN), (-1, 1))
        self.assertEqual(rest(standing=row(4, 0), circuit=PAIR), row(1, 1))
        self.assertEqual(left(standing=row(4, 0), circuit=PAIR), (12, 1))
        self.assertEqual(one_rest(other=row(1, 1), one=row(4, 0), circuit=PAIR), ("one",))
        self.assertIs(shows_one_rest(value=("one",), other=row(1, 1), one=row(4, 0), circuit=PAIR), True)
        self.assertEqual(hangs(part="b", circuit=PUMP), ("fixed", (1, 1)))
        self.assertIs(shows_hangs(value=("fixed", (1, 1)), part="b", circuit=PUMP), True)

    def test_bad_standing(self):
        for value in NO_ROWS_OF_TWO:
            for function in (rest, left):
                self.refused(BadStanding, value, function, PAIR, value)
            self.refused(BadStanding, value, one_rest, PAIR, value, row(1, 1))
            self.refused(BadStanding, value, one_rest, PAIR, row(1, 1), value)
            self.refused(BadStanding, value, shows_one_rest, PAIR, value, row(1, 1), ("one",))
            self.refused(BadStanding, value, shows_one_rest, PAIR, row(1, 1), value, ("one",))
        self.refused(BadStanding, "one", one_rest, PAIR, "one", "other")
        self.refused(BadStanding, "one", shows_one_rest, PAIR, "one", "other", None)

    def test_no_rest_with_what_any_rest_tells(self):
        for circuit in without_rest(100) + [TORN, RING, THREE]:
            told, standing = any_rest(circuit), row(*range(len(circuit)))
            part = circuit.parts[-1][0]
            calls = [
                (rest, standing), (left, standing), (one_rest, standing, standing), (hangs, part),
                (shows_one_rest, standing, standing, ("one",)), (shows_hangs, part, None),
            ]
            for function, *others in calls:
                self.refused_as_told(NoRest, told, function, circuit, *others)

    def test_arguments_ahead_of_no_rest(self):
        for function in (rest, left):
            self.refused(BadStanding, "x", function, TORN, "x")
        self.refused(BadStanding, "x", one_rest, TORN, row(1), "x")
        self.refused(BadStanding, "x", shows_one_rest, TORN, "x", row(1), ("one",))
        self.refused(NoPart, "x", hangs, TORN, "x")
        self.refused(NoPart, "x", shows_hangs, TORN, "x", None)

    def test_no_part(self):
        for value in ("c", "", "A", "in", "pour", "gnd", None, 0, True, (), ("a",), ["a"], {}, PUMP):
            self.refused(NoPart, value, hangs, PUMP, value)
            self.refused(NoPart, value, shows_hangs, PUMP, value, ("fixed", (1, 1)))


if __name__ == "__main__":
    unittest.main()
