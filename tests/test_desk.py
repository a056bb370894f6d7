"""Section 15, desks."""

import random
import unittest
from fractions import Fraction

from chargeturns.bench import Bench
from chargeturns.circuits import Circuit
from chargeturns.desk import Desk
from chargeturns.errors import (
    BadRow, BadScript, BadSize, BadWords, NoJoining, NoPart, NoRest, NoSource, NothingToRedo, NothingToUndo,
)
from chargeturns.journals import journal, read_journal
from chargeturns.rests import any_rest
from tests.making import (
    Refusing, any_values, fraction_word, fractions_of, pair, row, some_circuit, some_fraction, some_pump, some_script,
    some_size, some_standing,
)
from tests.reckoning import names_of
from tests.test_bench import TEXT, TORN, all_of

FIRST = "bench 0 1/2\n" + TEXT


def some_line(dice, circuit):
    """A line of a deed at random, with the name of the bench's method and its arguments."""
    part, joining = dice.choice(circuit.parts)[0], dice.choice(names_of(circuit))
    voltage, size, script = some_fraction(dice), some_size(dice), some_script(dice, circuit, dice.randint(0, 4))
    lines = [
        (f"join {joining}", "join", (joining,)),
        (" ".join(("turn",) + script), "turn", (script,)),
        (f"put {part} {voltage}", "put", (part, pair(voltage))),
        (f"size {part} {size}", "size", (part, pair(size))),
    ]
    for source, _ in circuit.sources[:1]:
        lines.append((f"volt {source} {voltage}", "source", (source, pair(voltage))))
    return dice.choice(lines)


class Say(Refusing):
    def test_by_hand(self):
        desk = Desk(FIRST)
        for line, answer in [
            ("standing", "a=0 b=1/2"), ("rest", "a=6 b=6"), ("lost", "0"), ("left", "193/2"), ("worth 1 1", "1"),
            ("worth -1/2 1/3", "1/3"), ("join up", "ok"), ("standing", "a=6 b=1/2"), ("lost", "36"), ("left", "121/2"),
            ("turn share up", "ok"), ("undo", "ok"), ("redo", "ok"), ("undo", "ok"), ("undo", "ok"), ("redo", "ok"),
            ("standing", "a=6 b=1/2"), ("put b -3", "ok"), ("size b 1/4", "ok"), ("volt e -1/2", "ok"), ("turn", "ok"),
            ("circuit", "; ".join(TEXT.replace("e 6", "e -1/2").replace("b 2", "b 1/4").split("\n")[1:])),
            ("standing", "a=6 b=-3"), ("rest", "a=-1/2 b=-1/2"), ("left", "701/16"), ("worth 1 0", "6"), ("undo", "ok"),
            ("undo", "ok"), ("undo", "ok"), ("undo", "ok"), ("undo", "ok"), ("lost", "0"), ("redo", "ok"), ("lost", "36"),
        ]:
            told = desk.say(line)
            self.assertEqual((line, told), (line, answer))
            self.assertIs(type(told), str)

    def test_as_the_bench_does(self):
        for seed in range(40):
            dice = random.Random(seed)
            circuit = (some_circuit if seed % 2 else some_pump)(seed)
            start = some_standing(dice, circuit)
            voltages = " ".join(fraction_word(number) for number in fractions_of(start))
            desk, bench = Desk(f"bench {voltages}\n{circuit.text}"), Bench(circuit.text, start)
            for _ in range(8):
                line, deed, told = some_line(dice, circuit)
                self.assertEqual(desk.say(line), "ok")
                getattr(bench, deed)(*told)
                if dice.random() < 0.3:
                    self.assertEqual(desk.say("undo"), "ok")
                    bench.undo()
                    if dice.random() < 0.5:
                        self.assertEqual(desk.say("redo"), "ok")
                        bench.redo()
                self.check(dice, desk, bench)
            self.assertEqual(all_of(desk.bench), all_of(bench))
            self.assertEqual(read_journal(journal(desk.bench)), bench)

    def check(self, dice, desk, bench):
        circuit = bench.circuit
        self.assertEqual(desk.bench, bench)
        self.assertEqual(desk.say("circuit"), "; ".join(circuit.text.split("\n")[1:]))
        self.assertEqual(desk.say("standing"), self.row_text(circuit, bench.standing))
        self.assertEqual(desk.say("lost"), fraction_word(Fraction(*bench.lost)))
        numbers = some_standing(dice, circuit)
        words = " ".join(fraction_word(number) for number in fractions_of(numbers))
        self.assertEqual(desk.say(f"worth {words}"), fraction_word(Fraction(*bench.worth(numbers))))
        if any_rest(circuit)[0] == "rest":
            self.assertEqual(desk.say("rest"), self.row_text(circuit, bench.rest()))
            self.assertEqual(desk.say("left"), fraction_word(Fraction(*bench.left())))
        else:
            for line in ("rest", "left"):
                self.refused_as_told(NoRest, any_rest(circuit), desk.say, line)

    def row_text(self, circuit, numbers):
        told = zip(circuit.parts, fractions_of(numbers))
        return " ".join(f"{name}={fraction_word(number)}" for (name, _), number in told)

    def test_the_very_bench(self):
        desk = Desk(FIRST)
        bench = desk.bench
        self.assertIs(type(bench), Bench)
        self.assertEqual(bench, Bench(TEXT, row(0, "1/2")))
        desk.say("join up")
        self.assertIs(desk.bench, bench)
        self.assertEqual(bench.standing, row(6, "1/2"))
        bench.put("a", (1, 1))
        self.assertEqual(desk.say("standing"), "a=1 b=1/2")
        with bench.trial():
            desk.say("put a 5")
            self.assertEqual(desk.say("standing"), "a=5 b=1/2")
        self.assertEqual(desk.say("standing"), "a=1 b=1/2")

    def test_desks_of_one_text_go_their_own_ways(self):
        one, other = Desk(FIRST), Desk(FIRST)
        one.say("join up")
        self.assertEqual((one.say("lost"), other.say("lost")), ("36", "0"))

    def test_words_that_are_names_too(self):
        text = "circuit\nsource volt 2\npart put 1\npart size 2\njoining join\ntie put volt gnd\njoining turn\ntie size undo gnd"
        desk = Desk(f"bench 0 0\n{text}\njoin join")
        for line in ("join turn", "turn turn join", "put put 1", "size size 3", "volt volt 4", "join join"):
            self.assertEqual(desk.say(line), "ok")
        self.assertEqual(desk.say("standing"), "put=4 size=0")
        self.assertEqual(read_journal(journal(desk.bench)), desk.bench)

    def test_great_numbers(self):
        desk = Desk(FIRST)
        desk.say("size a 9973/997")
        desk.say("size b 7919/991")
        while desk.bench.standing[0][1] < 10 ** 900:
            desk.say("turn" + " up share" * 20)
        told = desk.say("standing")
        self.assertEqual(desk.say(" ".join(["put", "a", told.split(" ")[1][2:]])), "ok")
        self.assertEqual(desk.bench.standing[0], desk.bench.standing[1])
        self.assertEqual(desk.say("standing").split(" ")[0], "a=" + told.split(" ")[1][2:])


class BadLines(Refusing):
    def test_no_words(self):
        desk = Desk(FIRST)
        ahead = all_of(desk.bench)
        wrong = [
            "", " ", "join", "join ", "join up up", "join  up", " join up", "join up ", "Join up", "turn ", "turn  up",
            "turn up ", "put", "put a", "put a ", "put a x", "put a 2/4", "put a 1/1", "put a -0", "put a 1 1", "put a 1 ",
            "size b", "size b x", "size b 2/4", "volt e", "volt e +1", "volt", "source e 1", "undo 1", "undo ", " undo",
            "redo ", "redo redo", "circuit ", "circuits", "circuit x", "standing a", " standing", "rest ", "rest a",
            "lost 1", "left ", "Left", "worth", "worth ", "worth 1 ", "worth  1 1", "worth 1  1", "worth x 1", "worth 1 2/4",
            "worth 1 1/1", "worth 1,1", "worth a", "journal", "keep", "done", "bench 0 0", "part a 1", "tie a x y", "ok",
            "join up\n", "\njoin up", "join up\njoin up", "standing\n", "\n", "lost\nleft", "rest\t", "undo\r",
            "put a 1\n", "turn\n",
        ]
        for line in wrong:
            self.refused(BadWords, line, desk.say, line)
        for value in any_values(Circuit(TEXT)) + [b"undo", ("undo",)]:
            if type(value) is not str:
                self.refused(BadWords, value, desk.say, value)
        self.assertEqual(all_of(desk.bench), ahead)

    def test_what_the_bench_raises(self):
        desk = Desk(FIRST)
        ahead = all_of(desk.bench)
        for line, error, value in [
            ("join x", NoJoining, "x"), ("join 1/2", NoJoining, "1/2"), ("join gnd", NoJoining, "gnd"),
            ("turn x", BadScript, 0), ("turn up share e", BadScript, 2), ("turn" + " up" * 41, BadScript, None),
            ("put x 1", NoPart, "x"), ("put e 1/2", NoPart, "e"), ("size x 1", NoPart, "x"), ("size x 0", NoPart, "x"),
            ("size b 0", BadSize, (0, 1)), ("size b -1/2", BadSize, (-1, 2)), ("volt x 1", NoSource, "x"),
            ("volt a 0", NoSource, "a"), ("undo", NothingToUndo, None), ("redo", NothingToRedo, None),
            ("worth 1", BadRow, row(1)), ("worth 1 1/2 -3", BadRow, row(1, "1/2", -3)), ("join up\t", NoJoining, "up\t"),
        ]:
            self.refused_as_told(error, value, desk.say, line)
            self.assertEqual(all_of(desk.bench), ahead)
        desk = Desk("bench 0 0\n" + TORN)
        for line in ("rest", "left"):
            self.refused_as_told(NoRest, any_rest(Circuit(TORN)), desk.say, line)

    def test_a_refused_line_leaves_what_can_be_done_again(self):
        desk = Desk(FIRST)
        desk.say("join up")
        desk.say("undo")
        for line in ("join x", "nothing", "size b 0"):
            self.assertRaises(ValueError, desk.say, line)
        self.assertEqual(desk.say("redo"), "ok")
        self.assertEqual(desk.say("lost"), "36")

    def test_by_name(self):
        self.assertEqual(Desk(text=FIRST).say(line="lost"), "0")


if __name__ == "__main__":
    unittest.main()
