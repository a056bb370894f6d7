"""The whole document at once: a doubler and a divider by three, worked out by hand, through all modules."""

import random
import unittest
from fractions import Fraction

from chargeturns.bench import Bench
from chargeturns.circuits import Circuit, grounded, with_source
from chargeturns.cycles import cycle, lost_in_cycle, own_kept, shows_cycle, supplied
from chargeturns.desk import Desk
from chargeturns.errors import Drains, Floats, NoRest
from chargeturns.joinings import does_fit, either_way, flow, joined, lost, potentials, shows_potentials, square
from chargeturns.journals import journal, read_journal
from chargeturns.loads import loaded, loaded_cycle, slope
from chargeturns.looks import alike, can_tell, shows_alike, shows_can_tell, unseen
from chargeturns.quickness import finite, holds, quickness, shows_finite, shows_holds, shows_quickness
from chargeturns.rests import any_rest, draws, hangs, left, one_rest, rest, shows_any_rest, shows_hangs
from chargeturns.scripts import apart, behind, losses, run
from chargeturns.sizes import fixed_parts, for_all_sizes, shows_for_all_sizes, with_sizes
from chargeturns.sums import directions, is_kept, kept_rows, shows_is_kept, sum_of
from tests.making import pair, row, some_fraction, some_size


def word(number):
    return str(Fraction(number))


def doubler(fly, out, volt):
    """A part filled from a source, then lifted onto it beside an output, which a third joining empties."""
    return Circuit("\n".join([
        "circuit", f"source v {word(volt)}", f"part fly {word(fly)}", f"part out {word(out)}",
        "joining fill", "tie fly v gnd", "joining lift", "tie fly x v", "tie out x gnd",
    ]))


def with_use(circuit):
    return Circuit(circuit.text + "\njoining use\ntie out gnd gnd")


def draws_of_doubler(many):
    for seed in range(many):
        dice = random.Random(seed)
        fly, out, volt = some_size(dice), some_size(dice), some_fraction(dice) or Fraction(5)
        yield dice, fly, out, volt, doubler(fly, out, volt)


class Doubler(unittest.TestCase):
    script = ("fill", "lift")

    def test_joinings_and_scripts(self):
        for dice, fly, out, volt, circuit in draws_of_doubler(20):
            p, q = some_fraction(dice), some_fraction(dice)
            start = row(p, q)
            # Lifted: fly * (x - volt - p) and out * (x - q) are nothing together.
            x = (fly * (p + volt) + out * q) / (fly + out)
            self.assertEqual(joined(circuit, "fill", start), row(volt, q))
            self.assertEqual(joined(circuit, "lift", start), row(x - volt, x))
            self.assertEqual(flow(circuit, "lift", start), row(fly * (x - volt - p), out * (x - q)))
            step = fly * (x - volt - p) ** 2 + out * (x - q) ** 2
            self.assertEqual(lost(circuit, "lift", start), pair(step))
            self.assertEqual(square(circuit, start), pair(fly * p * p + out * q * q))
            self.assertEqual(potentials(circuit, "lift", row(x - volt, x)), (("x", pair(x)),))
            self.assertIs(shows_potentials(circuit, "lift", row(x - volt, x), (("x", pair(x)),)), True)
            self.assertIs(does_fit(circuit, "lift", start), x == q and p == q - volt)
            first = (2 * volt * fly + out * q) / (fly + out)
            self.assertEqual(run(circuit, self.script, start), (start, row(volt, q), row(first - volt, first)))
            squares = fly * (volt - p) ** 2, fly * (first - 2 * volt) ** 2 + out * (first - q) ** 2
            self.assertEqual(losses(circuit, self.script, start), tuple(pair(number) for number in squares))
            told = apart(circuit, self.script, start, row(volt, 2 * volt))
            whole = fly * (p - volt) ** 2 + out * (q - 2 * volt) ** 2
            self.assertEqual(told, (pair(whole), pair(whole - squares[0]), pair(whole - sum(squares))))
            self.assertEqual(either_way(circuit, "fill", "lift")[0], "unlike")

    def test_kept_rows_rests_and_sizes(self):
        for dice, fly, out, volt, circuit in draws_of_doubler(20):
            end, start = row(volt, 2 * volt), row(some_fraction(dice), some_fraction(dice))
            self.assertEqual(directions(circuit, "fill"), (row(0, 1),))
            self.assertEqual(directions(circuit, "lift"), (row(1, 1),))
            self.assertEqual(kept_rows(circuit), ())
            self.assertEqual(is_kept(circuit, row(0, 0)), ("kept",))
            self.assertIs(shows_is_kept(circuit, row(1, 1), is_kept(circuit, row(1, 1))), True)
            self.assertEqual(any_rest(circuit), ("rest", end))
            self.assertEqual(rest(circuit, start), end)
            gap = fly * (Fraction(*start[0]) - volt) ** 2 + out * (Fraction(*start[1]) - 2 * volt) ** 2
            self.assertEqual(left(circuit, start), pair(gap))
            self.assertEqual(one_rest(circuit, start, row(0, 0)), ("one",))
            self.assertEqual(hangs(circuit, "out"), ("fixed", pair(2 * volt)))
            self.assertIs(shows_hangs(circuit, "fly", ("fixed", pair(volt))), True)
            self.assertEqual(fixed_parts(circuit), (("fly", pair(volt)), ("out", pair(2 * volt))))
            self.assertEqual(for_all_sizes(circuit, start), ("same", end))
            sizes = tuple(pair(some_size(dice)) for _ in range(2))
            self.assertEqual(rest(with_sizes(circuit, sizes), start), end)

    def test_round_and_round(self):
        for dice, fly, out, volt, circuit in draws_of_doubler(20):
            # Of (p, q), sources 0, a round makes x at both: x is out * q / (fly + out).
            rate = out / (fly + out)
            self.assertEqual(own_kept(circuit, self.script), ())
            self.assertEqual(cycle(circuit, self.script, row(0, 0)), (row(volt, 2 * volt),) * 2)
            self.assertEqual(lost_in_cycle(circuit, self.script), (0, 1))
            self.assertEqual(supplied(circuit, self.script), (("v", (0, 1)),))
            self.assertEqual(holds(circuit, self.script, pair(rate)), ("holds",))
            low = pair(rate * Fraction(999, 1000))
            self.assertIs(shows_holds(circuit, self.script, low, ("broken", row(0, 1))), True)
            self.assertIs(shows_holds(circuit, self.script, low, holds(circuit, self.script, low)), True)
            told = quickness(circuit, self.script, (1, 500))
            self.assertTrue(Fraction(*told[0]) < rate <= Fraction(*told[1]))
            self.assertIs(shows_quickness(circuit, self.script, (1, 500), (told[0], pair(rate), told[2])), True)
            self.assertEqual(finite(circuit, self.script)[0], "never")
            self.assertIs(shows_finite(circuit, self.script, ("never", row(5, 1))), True)
            self.assertIs(shows_finite(circuit, self.script, ("never", row(5, 0))), False)
            # Each round leaves so much of what lacks at the output.
            start = behind(circuit, self.script * 3, row(0, 0))
            self.assertEqual(start[1], pair(2 * volt - 2 * volt * rate ** 3))

    def test_emptied_in_each_round(self):
        for dice, fly, out, volt, plain in draws_of_doubler(20):
            circuit, script = with_use(plain), ("fill", "lift", "use")
            # Filled to volt, lifted to x, out is emptied; fly stays at x - volt.
            x = 2 * volt * fly / (fly + out)
            self.assertEqual(cycle(circuit, script, row(7, 7)), (row(x - volt, 0), row(volt, 0), row(x - volt, x)))
            self.assertIs(shows_cycle(circuit, script, row(0, 0), cycle(circuit, script, row(7, 7))), True)
            given = 2 * fly * (2 * volt - x)
            self.assertEqual(supplied(circuit, script), (("v", pair(given)),))
            self.assertEqual(lost_in_cycle(circuit, script), pair(2 * given * volt))
            # No rest: out is to have both 2 * volt and nothing.
            told = any_rest(circuit)
            self.assertIs(shows_any_rest(circuit, told), True)
            lot = (("fill", row(-1, 0)), ("lift", row(1, -1)), ("use", row(0, 1)))
            self.assertIs(shows_any_rest(circuit, ("lot", lot)), True)
            self.assertEqual(draws(circuit, lot), pair(-2 * volt))
            with self.assertRaises(NoRest) as caught:
                for_all_sizes(circuit, row(0, 0))
            self.assertEqual(caught.exception.value, told)
            self.assertEqual(any_rest(grounded(circuit))[0], "rest")
            # A round leaves nothing at out; what it leaves at fly the next one takes.
            self.assertEqual(finite(circuit, script), ("behind", 2))
            self.assertEqual(behind(circuit, script * 2, row(7, -3)), row(x - volt, 0))

    def test_loads(self):
        for dice, fly, out, volt, circuit in draws_of_doubler(20):
            charge, p, q = some_fraction(dice), some_fraction(dice), some_fraction(dice)
            x = (fly * (p + volt) + out * q - charge) / (fly + out)
            self.assertEqual(loaded(circuit, "lift", "x", pair(charge), row(p, q)), row(x - volt, x))
            # In the cycle the charge comes from fly alone: it is at its size by so much below.
            x = 2 * volt - charge / fly
            told = loaded_cycle(circuit, self.script, (1, "x", pair(charge)), row(p, q))
            self.assertEqual(told, ("cycle", (row(x - volt, x), row(volt, x))))
            self.assertEqual(slope(circuit, self.script, 1, "x"), pair(1 / fly))
            self.assertEqual(slope(circuit, self.script, 1, "v"), (0, 1))
            # A kept row of lift alone has the potential 1 there.
            self.assertEqual(loaded_cycle(circuit, ("lift",), (0, "x", (1, 1)), row(p, q)), ("drains", row(1, 1)))
            with self.assertRaises(Drains) as caught:
                slope(circuit, ("lift", "lift"), 1, "x")
            self.assertEqual(caught.exception.value, row(1, 1))

    def test_looks(self):
        for dice, fly, out, volt, circuit in draws_of_doubler(10):
            self.assertEqual([unseen(circuit, seen) for seen in (("fly",), ("out",), ("fly", "out"))], [(), (), ()])
            self.assertEqual(alike(circuit, ("fly",), row(0, 0), row(0, 1)), ("parted", ("lift",)))
            self.assertIs(shows_alike(circuit, ("fly",), row(0, 0), row(0, 1), ("parted", ("fill",))), False)
            self.assertEqual(can_tell(circuit, ("out",), row(1, 1)), ("told",))
            # fly and out differ in such a way that nothing is seen at out behind lift; but it is seen ahead.
            other = row(1 / fly, -1 / out)
            self.assertEqual(alike(circuit, ("out",), row(0, 0), other), ("parted", ()))
            filled = Circuit(circuit.text.split("\njoining lift")[0])
            self.assertEqual(unseen(filled, ("fly",)), (row(0, 1),))
            self.assertIs(shows_can_tell(filled, ("fly",), row(0, 1), ("hidden", row(0, "-7/3"))), True)

    def test_bench_journal_and_desk(self):
        for dice, fly, out, volt, circuit in draws_of_doubler(12):
            bench = Bench(circuit.text, row(0, 0))
            whole = (fly + 4 * out) * volt * volt
            self.assertEqual(bench.left(), pair(whole))
            bench.turn(self.script)
            x = 2 * volt * fly / (fly + out)
            self.assertEqual(bench.standing, row(x - volt, x))
            self.assertEqual(Fraction(*bench.lost) + Fraction(*bench.left()), whole)
            bench.join("fill")
            bench.source("v", pair(2 * volt))
            self.assertEqual(bench.rest(), row(2 * volt, 4 * volt))
            lines = ["bench 0 0", circuit.text, "turn fill lift", "join fill", f"volt v {word(2 * volt)}"]
            self.assertEqual(journal(bench), "\n".join(lines))
            self.assertEqual(read_journal(journal(bench)), bench)
            desk = Desk(journal(bench))
            self.assertEqual(desk.say("rest"), f"fly={word(2 * volt)} out={word(4 * volt)}")
            self.assertEqual(desk.say("standing"), f"fly={word(volt)} out={word(x)}")
            self.assertEqual(desk.say(f"put out {word(4 * volt)}"), "ok")
            self.assertEqual(desk.say("left"), word(fly * volt * volt))
            self.assertEqual(desk.say("join lift"), "ok")
            self.assertNotEqual(desk.bench, bench)


def divider(sizes, volt):
    """Three parts in a row across a source, then side by side."""
    parts = [f"part {name} {word(size)}" for name, size in zip("abc", sizes)]
    return Circuit("\n".join(["circuit", f"source v {word(volt)}"] + parts + [
        "joining row", "tie a v m", "tie b m n", "tie c n gnd",
        "joining side", "tie a x gnd", "tie b x gnd", "tie c x gnd",
    ]))


def draws_of_divider(many):
    for seed in range(many):
        dice = random.Random(100 + seed)
        sizes, volt = [some_size(dice) for _ in range(3)], some_fraction(dice) or Fraction(5)
        yield dice, sizes, volt, divider(sizes, volt)


def some_numbers(dice):
    return [some_fraction(dice) for _ in range(3)]


class Divider(unittest.TestCase):
    script = ("row", "side")

    def row_by_hand(self, sizes, numbers, volt):
        """In a row the same charge comes to all three."""
        charge = (volt - sum(numbers)) / sum(1 / size for size in sizes)
        return charge, [number + charge / size for number, size in zip(numbers, sizes)]

    def side_by_hand(self, sizes, numbers):
        return sum(size * number for size, number in zip(sizes, numbers)) / sum(sizes)

    def test_joinings_and_scripts(self):
        for dice, sizes, volt, circuit in draws_of_divider(20):
            numbers = some_numbers(dice)
            charge, in_row = self.row_by_hand(sizes, numbers, volt)
            self.assertEqual(joined(circuit, "row", row(*numbers)), row(*in_row))
            self.assertEqual(flow(circuit, "row", row(*numbers)), row(charge, charge, charge))
            self.assertEqual(lost(circuit, "row", row(*numbers)), pair(charge * charge * sum(1 / size for size in sizes)))
            told = potentials(circuit, "row", row(*in_row))
            self.assertEqual(told, (("m", pair(volt - in_row[0])), ("n", pair(in_row[2]))))
            x = self.side_by_hand(sizes, in_row)
            self.assertEqual(behind(circuit, self.script, row(*numbers)), row(x, x, x))
            lost_then = sum(size * (x - number) ** 2 for size, number in zip(sizes, in_row))
            first = charge * charge * sum(1 / size for size in sizes)
            self.assertEqual(losses(circuit, self.script, row(*numbers)), (pair(first), pair(lost_then)))

    def test_kept_rows_rests_and_sizes(self):
        for dice, sizes, volt, circuit in draws_of_divider(20):
            third, start = row(*[volt / 3] * 3), row(*some_numbers(dice))
            self.assertEqual(directions(circuit, "row"), (row(1, 0, -1), row(0, 1, -1)))
            self.assertEqual(directions(circuit, "side"), (row(1, 1, 1),))
            self.assertEqual((kept_rows(circuit), any_rest(circuit)), ((), ("rest", third)))
            self.assertEqual((rest(circuit, start), for_all_sizes(circuit, start)), (third, ("same", third)))
            self.assertEqual(fixed_parts(circuit), tuple((name, pair(volt / 3)) for name in "abc"))
            # Without the source's joining what they have is shared by their sizes.
            shared = Circuit(circuit.text.replace("joining row\ntie a v m\ntie b m n\ntie c n gnd\n", ""))
            self.assertEqual(kept_rows(shared), (row(1, 1, 1),))
            x = self.side_by_hand(sizes, [Fraction(*number) for number in start])
            self.assertEqual(rest(shared, start), row(x, x, x))
            self.assertEqual(sum_of(shared, row(1, 1, 1), start), pair(x * sum(sizes)))
            self.assertEqual(for_all_sizes(shared, row(volt, volt, volt)), ("same", row(volt, volt, volt)))
            value = ("hangs", row(1, 1, 1), row(1, 1, 2))
            self.assertIs(shows_for_all_sizes(shared, row(1, 1, 0), value), True)

    def test_round_and_round(self):
        for dice, sizes, volt, circuit in draws_of_divider(20):
            # Of a gap a round makes the same x at all three: by sizes and the numbers' sums 1 - 9 / (S * H) at most.
            whole, inverse = sum(sizes), sum(1 / size for size in sizes)
            rate = 1 - 9 / (whole * inverse)
            gap = row(*[1 - 3 / (inverse * size) for size in sizes])
            self.assertEqual(holds(circuit, self.script, pair(rate)), ("holds",))
            if rate > 0:
                less = pair(rate * Fraction(999, 1000))
                self.assertIs(shows_holds(circuit, self.script, less, ("broken", gap)), True)
                self.assertEqual(finite(circuit, self.script)[0], "never")
            told = quickness(circuit, self.script, (1, 1000))
            self.assertTrue(Fraction(*told[0]) <= rate <= Fraction(*told[1]))
            self.assertEqual(cycle(circuit, self.script, row(0, 0, 0)), (row(*[volt / 3] * 3),) * 2)
            self.assertEqual(supplied(circuit, self.script), (("v", (0, 1)),))
        for size in (Fraction(1), Fraction(7, 3)):
            circuit = divider([size] * 3, Fraction(5))
            self.assertEqual(finite(circuit, self.script), ("behind", 1))
            self.assertEqual(quickness(circuit, self.script, (1, 9)), ((0, 1), (0, 1), None))
            self.assertEqual(behind(circuit, self.script, row(7, 0, -2)), row("5/3", "5/3", "5/3"))

    def test_loads(self):
        for dice, sizes, volt, circuit in draws_of_divider(20):
            charge = some_fraction(dice)
            inverse, numbers = sum(1 / size for size in sizes), some_numbers(dice)
            x = self.side_by_hand(sizes, numbers) - charge / sum(sizes)
            self.assertEqual(loaded(circuit, "side", "x", pair(charge), row(*numbers)), row(x, x, x))
            # A third of the charge comes to each of them in a row, so they lack it side by side.
            self.assertEqual(slope(circuit, self.script, 1, "x"), pair(inverse / 9))
            x = volt / 3 - charge * inverse / 9
            in_row = [x + charge / 3 / size for size in sizes]
            told = loaded_cycle(circuit, self.script, (1, "x", pair(charge)), row(*numbers))
            self.assertEqual(told, ("cycle", (row(x, x, x), row(*in_row))))
            self.assertEqual(sum(in_row), volt)
            with self.assertRaises(Floats):
                floating = Circuit(circuit.text + "\njoining loose\ntie b p q")
                loaded(floating, "loose", "p", (0, 1), row(0, 0, 0))

    def test_looks(self):
        for dice, sizes, volt, circuit in draws_of_divider(10):
            # Of what a does not show, one joining shows what is more or less in a row, and one side by side.
            told = unseen(circuit, ("a",))
            if sizes[1] == sizes[2]:
                self.assertEqual(told, (row(0, 1, -1),))
            else:
                self.assertEqual(told, ())
        circuit = divider([Fraction(2), Fraction(3), Fraction(3)], Fraction(5))
        self.assertEqual(unseen(circuit, ("a",)), (row(0, 1, -1),))
        self.assertEqual(can_tell(circuit, ("a",), row(0, 1, 0)), ("hidden", row(0, 1, -1)))
        self.assertEqual(can_tell(circuit, ("a",), row(0, 1, 1)), ("told",))
        self.assertEqual(alike(circuit, ("a",), row(0, 1, 0), row(0, 0, 1)), ("alike",))
        self.assertEqual(alike(circuit, ("a",), row(0, 1, 0), row(0, 0, 2))[0], "parted")

    def test_bench_journal_and_desk(self):
        for dice, sizes, volt, circuit in draws_of_divider(10):
            bench = Bench(circuit.text, row(volt, 0, 0))
            bench.turn(self.script * 20)
            whole = Fraction(4, 9) * sizes[0] + Fraction(1, 9) * (sizes[1] + sizes[2])
            self.assertEqual(Fraction(*bench.lost) + Fraction(*bench.left()), whole * volt * volt)
            told = bench.tried(lambda held: (held.source("v", (0, 1)), held.rest())[1])
            self.assertEqual(told, row(0, 0, 0))
            self.assertEqual(bench.circuit, circuit)
            bench.source("v", pair(3 * volt))
            self.assertEqual(bench.circuit, with_source(circuit, "v", pair(3 * volt)))
            desk = Desk(journal(bench))
            self.assertEqual(desk.say("rest"), " ".join(f"{name}={word(volt)}" for name in "abc"))
            self.assertEqual(desk.say("undo"), "ok")
            self.assertEqual(desk.say("rest"), " ".join(f"{name}={word(volt / 3)}" for name in "abc"))
            bench.undo()
            self.assertEqual(desk.bench, bench)


if __name__ == "__main__":
    unittest.main()
