"""Section 15, journals; section 3 (h)."""

import random
import unittest

from chargeturns.bench import Bench
from chargeturns.circuits import Circuit
from chargeturns.desk import Desk
from chargeturns.errors import BadJournal
from chargeturns.journals import journal, read_journal
from tests.making import Refusing, any_values, fraction_word, fractions_of, row, some_fraction
from tests.test_bench import TEXT, a_bench, all_of, some_benches, some_deed

LINES = ["bench 1/2 -3"] + TEXT.split("\n") + ["join up", "turn share up", "put a 1/3", "size b 2/7", "volt e -1", "turn"]
# How many lines stand ahead of the first deed's.
AHEAD = 11


def text(lines):
    return "\n".join(lines)


class Journal(unittest.TestCase):
    def test_line_by_line(self):
        bench = Bench(TEXT, row("1/2", -3))
        self.assertEqual(journal(bench), text(LINES[:AHEAD]))
        bench.join("up")
        bench.turn(("share", "up"))
        bench.put("a", (1, 3))
        bench.size("b", (2, 7))
        bench.source("e", (-1, 1))
        bench.turn(())
        self.assertEqual(journal(bench), text(LINES))
        for many in range(len(LINES) - 1, AHEAD - 1, -1):
            bench.undo()
            self.assertEqual(journal(bench), text(LINES[:many]))
        bench.redo()
        self.assertEqual(journal(bench), text(LINES[:AHEAD + 1]))
        bench.put("b", (0, 1))
        self.assertEqual(journal(bench), text(LINES[:AHEAD + 1] + ["put b 0"]))

    def test_it_begins_as_the_bench_began(self):
        for bench, dice in some_benches(12):
            first, circuit = fractions_of(bench.standing), bench.circuit.text
            for _ in range(6):
                kind, told = some_deed(dice, bench)
                getattr(bench, kind)(*told)
            lines = journal(bench).split("\n")
            self.assertEqual(lines[0], " ".join(["bench"] + [fraction_word(number) for number in first]))
            self.assertEqual(text(lines[1:1 + len(circuit.split("\n"))]), circuit)
            self.assertEqual(len(lines), 1 + len(circuit.split("\n")) + 6)
            words = {"join": "join", "turn": "turn", "put": "put", "size": "size", "source": "volt"}
            self.assertEqual(lines[-1].split(" ")[0], words[kind])

    def test_within_a_block(self):
        bench = a_bench()
        with bench.trial():
            bench.undo()
            bench.put("a", (7, 1))
            self.assertEqual(journal(bench).split("\n")[AHEAD:], ["join up", "put a 7"])
        self.assertEqual(journal(bench).split("\n")[AHEAD:], ["join up", "turn share up"])

    def test_by_name(self):
        self.assertEqual(journal(bench=read_journal(text=text(LINES))), text(LINES))


class ReadJournal(Refusing):
    def test_read_back(self):
        for bench, dice in some_benches(25):
            for _ in range(dice.randint(0, 7)):
                kind, told = some_deed(dice, bench)
                getattr(bench, kind)(*told)
            for _ in range(dice.randint(0, min(2, bench.done))):
                bench.undo()
            other = read_journal(journal(bench))
            self.assertIs(type(other), Bench)
            self.assertEqual(other, bench)
            told = (bench.circuit, bench.standing, bench.lost, bench.done, journal(bench))
            self.assertEqual((other.circuit, other.standing, other.lost, other.done, journal(other)), told)
            # All of its deeds can be taken back, none can be done again.
            self.assertEqual(all_of(other)[1][0], None)
            self.assertEqual(len(all_of(other)[1]), bench.done + 2)

    def test_by_hand(self):
        bench = read_journal(text(LINES))
        # Up loses 11/2 times 11/2; share brings both to 0 and loses 36 and 2 times 9; up again loses 36.
        self.assertEqual((bench.standing, bench.lost, bench.done), (row("1/3", 0), (481, 4), 6))
        self.assertEqual(bench.circuit.parts, (("a", (1, 1)), ("b", (2, 7))))
        self.assertEqual(bench.circuit.sources, (("e", (-1, 1)),))
        for _ in range(6):
            bench.undo()
        self.assertEqual((bench.standing, bench.circuit.text), (row("1/2", -3), TEXT))

    def test_no_deeds(self):
        bench = read_journal(text(LINES[:AHEAD]))
        self.assertEqual((bench, bench.done), (Bench(TEXT, row("1/2", -3)), 0))

    def refused_at(self, number, lines):
        self.refused_as_told(BadJournal, number, read_journal, text(lines))
        self.refused_as_told(BadJournal, number, Desk, text(lines))

    def test_no_string(self):
        for value in any_values(Circuit(TEXT)) + [LINES, tuple(LINES)]:
            if type(value) is not str:
                self.refused_as_told(BadJournal, 0, read_journal, value)
                self.refused_as_told(BadJournal, 0, Desk, value)

    def test_first_line(self):
        wrong = [
            "", "bench", "bench ", " bench 1/2 -3", "bench  1/2 -3", "bench 1/2 -3 ", "bench 1/2  -3", "Bench 1/2 -3",
            "bench 2/4 -3", "bench 1/2 -6/2", "bench 1/1 -3", "bench 0/1 0", "bench -0 0", "bench 1/0 0", "bench 1/-2 0",
            "bench +1 0", "bench 01 0", "bench 1.5 0", "bench x 0", "bench 1/2 -3 x", "bench 1/2/3 0", "bench 1/ 0",
            "bench /2 0", "bench 1/2,-3", "bench\t1/2 -3", "bench 1_0 0", "circuit", "join up", "benches 1/2 -3",
            "bench (1, 2) 0", "bench - 0", "bench 1/02 0", "bench 00 0",
        ]
        for line in wrong:
            self.refused_at(1, [line] + LINES[1:])
            # Ahead of all that is wrong behind it.
            self.refused_at(1, [line, "no circuit", "join"])
        self.refused_at(1, [""])
        self.refused_at(1, ["bench"])
        self.refused_at(1, LINES[1:])

    def test_as_many_fractions_as_parts(self):
        for line in ("bench 0", "bench 0 0 0", "bench " + "0 " * 99 + "0"):
            self.refused_at(1, [line] + LINES[1:])
            # Behind what Circuit refuses, but ahead of all deeds.
            self.refused_at(1, [line] + LINES[1:AHEAD] + ["join", "nothing"])
            self.refused_at(3, [line, "circuit", "source e", "part a 1", "joining j", "join j"])

    def test_the_circuits_lines(self):
        self.refused_at(2, ["bench 0"])
        self.refused_at(2, ["bench 0", ""])
        self.refused_at(2, ["bench 0", "join up"])
        self.refused_at(2, ["bench 0", "turn"])
        self.refused_at(2, ["bench 0", "circuits"])
        self.refused_at(3, ["bench 0", "circuit"])
        self.refused_at(3, ["bench 0", "circuit", "join j", "part a 1", "joining j"])
        self.refused_at(4, ["bench 0", "circuit", "part a 1", "join j"])
        self.refused_at(4, ["bench 0", "circuit", "part a 1"])
        self.refused_at(4, ["bench 0", "circuit", "part a 1", "volt", "joining j"])
        self.refused_at(1, ["bench 0 0", "circuit", "part a 1", "joining j", "join j"])
        self.refused_at(3, ["bench 0", "circuit", "part a 0", "joining j"])
        self.refused_at(5, ["bench 0", "circuit", "part a 1", "joining j", "tie b x y", "join j"])
        for at in range(1, AHEAD):
            for line in ("", "nothing", LINES[at] + " ", " " + LINES[at], LINES[at].replace(" ", "  ") + " x", "undo", "redo"):
                self.refused_at(at + 1, LINES[:at] + [line] + LINES[at + 1:])

    def test_a_line_out_twice_or_exchanged(self):
        for at in range(len(LINES)):
            without, twice = LINES[:at] + LINES[at + 1:], LINES[:at + 1] + LINES[at:]
            for lines in (without, twice):
                self.check(lines)
            for other in range(at):
                lines = list(LINES)
                lines[at], lines[other] = lines[other], lines[at]
                self.check(lines)

    def check(self, lines):
        """By what the document says, line by line."""
        number = refused_line(lines)
        if number is None:
            bench = read_journal(text(lines))
            self.assertEqual(journal(bench), text(lines))
        else:
            self.refused_at(number, lines)

    def test_deeds_of_no_form(self):
        wrong = [
            "", " ", "join", "join ", "join up up", "join  up", " join up", "join up ", "joins up", "Join up", "turn ",
            "turn  up", "turn up ", "turn up  share", "put", "put a", "put a ", "put a 1 ", "put a 1 1", "put  a 1",
            "put a x", "put a 2/4", "put a 1/1", "put a -0", "put a 1/0", "put a +1", "put a 01", "size b", "size b 2/4",
            "size b x", "size b 2 2", "volt e", "volt e x", "volt e 1 1", "volt", "size", "source e 1", "source", "undo",
            "redo", "undo 1", "standing", "rest", "lost", "left", "worth 1 1", "circuit", "part a 1", "joining j",
            "tie a x y", "bench 0 0", "keep", "nothing", "joinup", "put a 1\tx", "turn\tup",
        ]
        for line in wrong:
            for at in range(AHEAD + 1, len(LINES) + 1):
                self.refused_at(at + 1, LINES[:at] + [line] + LINES[at:])

    def test_refused_deeds(self):
        wrong = [
            "join x", "join UP", "join e", "join gnd", "join up!", "turn x", "turn up x", "turn " + "up " * 40 + "up",
            "put x 1", "put A 1", "put e 1", "put 1 1", "put (a) 1", "size x 1", "size b 0", "size b -1", "size b -1/2",
            "size b -2/7", "volt x 1", "volt a 1", "volt gnd 1", "join up\t", "put a\t 1",
        ]
        for line in wrong:
            for at in (AHEAD, AHEAD + 1, AHEAD + 4, len(LINES)):
                self.refused_at(at + 1, LINES[:at] + [line] + LINES[at:])
                # The first of several.
                self.refused_at(at + 1, LINES[:at] + [line] + LINES[at:] + ["join x", "nothing"])

    def test_the_first_later_line(self):
        self.refused_at(AHEAD + 2, LINES[:AHEAD] + ["join up", "nothing", "join x"])
        self.refused_at(AHEAD + 2, LINES[:AHEAD] + ["join up", "join x", "nothing"])
        self.refused_at(AHEAD + 3, LINES[:AHEAD] + ["join up", "volt e 0", "size x 1", ""])
        self.refused_at(len(LINES) + 1, LINES + [""])

    def test_longest_script_and_texts_of_4000_characters(self):
        lines = LINES[:AHEAD] + ["turn" + " up share" * 20, "turn" + " idle" * 40]
        self.assertEqual(journal(read_journal(text(lines))), text(lines))
        number = "9" * 1700 + "/" + "1" + "0" * 1700
        lines = [f"bench {number} 0"] + LINES[1:AHEAD] + ["put b " + "7" * 400, "join share"]
        bench = read_journal(text(lines))
        self.assertEqual(journal(bench), text(lines))
        self.assertEqual(bench, read_journal(journal(bench)))
        self.assertEqual((bench.standing[0], bench.done), (bench.standing[1], 2))


DEED_WORDS = ("join", "turn", "put", "size", "volt")


def is_fraction_word(word):
    try:
        return fraction_word(word) == word
    except (ValueError, ZeroDivisionError):
        return False


def refused_line(lines):
    """The number of the line that a journal is refused for; None if it is one. For lines taken from LINES."""
    words = lines[0].split(" ")
    if words[0] != "bench" or len(words) < 2 or not all(map(is_fraction_word, words[1:])):
        return 1
    deeds = [at for at, line in enumerate(lines) if at and line.split(" ")[0] in DEED_WORDS]
    end = deeds[0] if deeds else len(lines)
    try:
        circuit = Circuit(text(lines[1:end]))
    except ValueError as refused:
        return refused.value + 1
    if len(words) - 1 != len(circuit):
        return 1
    names = {"put": circuit.parts, "size": circuit.parts, "volt": circuit.sources, "join": circuit.joinings}
    for at in range(end, len(lines)):
        word, *told = lines[at].split(" ")
        if word not in DEED_WORDS:
            return at + 1
        known = [name for name, _ in names.get(word, circuit.joinings)]
        if any(name not in known for name in (told if word == "turn" else told[:1])):
            return at + 1
    return None


class Fractions(unittest.TestCase):
    def test_as_texts_write_them(self):
        dice = random.Random(3)
        for _ in range(60):
            numbers = [some_fraction(dice) for _ in range(2)]
            lines = [f"bench {numbers[0]} {numbers[1]}"] + LINES[1:AHEAD] + [f"put a {numbers[1]}", f"volt e {numbers[0]}"]
            bench = read_journal(text(lines))
            self.assertEqual(journal(bench), text(lines))
            self.assertEqual(bench.standing, row(numbers[1], numbers[1]))


if __name__ == "__main__":
    unittest.main()
