"""Section 4: the text of a circuit, and circuits made of others; section 2 where it tells of them."""

import unittest

from chargeturns.checks import is_name
from chargeturns.circuits import Circuit, grounded, with_size, with_source
from chargeturns.errors import BadCircuit, BadSize, BadVoltage, NoPart, NoSource
from tests.making import NO_FRACTIONS, Refusing, pair, parted, some_circuit, text_of

PUMP = [
    "circuit", "source v 5", "part c 1", "part d 1/2", "joining fill", "tie c v gnd",
    "joining lift", "tie c x v", "tie d x gnd",
]
NO_NAMES = ["", "abcdefg", "A", "aB", "a1", "1", "gnd ", "a_", "a-b", "\u00e4", "a\tb", "\uff41", "a\r", "0", "-"]
NO_FRACTION_WORDS = [
    "", "+1", "-0", "01", "00", "-01", "1/1", "5/1", "0/1", "0/2", "2/4", "-2/4", "4/2", "1/0", "0/0", "1/-2",
    "-1/-2", "1/", "/2", "/", "1/2/3", "1//2", "1/02", "01/2", "1/+2", "1.5", "1.0", "1e2", "1_000", "0x1", "--1",
    "-", "one", "1,5", "\u0663", "1/\u0663", "\u00b2", "\u00bd", "1\t", "1\r", "None", "True", "(1,2)", "-0/3",
]


def number_of(text):
    """The number of the line with which the text is refused; -1 if it is a circuit."""
    try:
        Circuit(text)
    except BadCircuit as error:
        return error.value
    return -1


def number_of_lines(*lines):
    return number_of("\n".join(lines))


class Reading(unittest.TestCase):
    def test_what_a_circuit_tells(self):
        pump = Circuit("\n".join(PUMP))
        self.assertEqual(pump.text, "\n".join(PUMP))
        self.assertEqual(pump.sources, (("v", (5, 1)),))
        self.assertEqual(pump.parts, (("c", (1, 1)), ("d", (1, 2))))
        lift = ("lift", (("c", "x", "v"), ("d", "x", "gnd")))
        self.assertEqual(pump.joinings, (("fill", (("c", "v", "gnd"),)), lift))
        self.assertEqual(len(pump), 2)

    def test_what_it_tells_are_tuples(self):
        for seed in range(40):
            circuit = some_circuit(seed)
            for told in (circuit.sources, circuit.parts, circuit.joinings):
                self.assertIs(type(told), tuple)
                self.assertTrue(all(type(entry) is tuple and len(entry) == 2 for entry in told))
            for _, number in circuit.sources + circuit.parts:
                self.assertEqual([type(number)] + [type(whole) for whole in number], [tuple, int, int])
            for _, ties in circuit.joinings:
                self.assertIs(type(ties), tuple)
                self.assertTrue(all(type(tie) is tuple and len(tie) == 3 for tie in ties))

    def test_texts_are_read_back(self):
        for seed in range(240):
            circuit = some_circuit(seed)
            self.assertEqual(text_of(*parted(circuit)), circuit.text)
            again = Circuit(circuit.text)
            self.assertEqual(again, circuit)
            told = (circuit.text, circuit.sources, circuit.parts, circuit.joinings, len(circuit.parts))
            self.assertEqual((again.text, again.sources, again.parts, again.joinings, len(again)), told)

    def test_all_counts_come_up(self):
        circuits = [some_circuit(seed) for seed in range(240)]
        self.assertEqual({len(circuit.sources) for circuit in circuits}, set(range(5)))
        self.assertEqual({len(circuit) for circuit in circuits}, set(range(1, 9)))
        self.assertEqual({len(circuit.joinings) for circuit in circuits}, set(range(1, 7)))
        tied = {(len(circuit), len(ties)) for circuit in circuits for _, ties in circuit.joinings}
        self.assertTrue({(8, 0), (8, 8), (8, 3), (1, 1), (1, 0)} <= tied)

    def test_numbers(self):
        for word, number in (("0", (0, 1)), ("-7", (-7, 1)), ("-7/3", (-7, 3)), ("10/9", (10, 9)), ("3/2", (3, 2))):
            circuit = Circuit(f"circuit\nsource s {word}\npart a 1\njoining j")
            self.assertEqual(circuit.sources, (("s", number),))
        for word, number in (("1", (1, 1)), ("1/999999999999", (1, 999999999999)), ("100", (100, 1))):
            circuit = Circuit(f"circuit\npart a {word}\njoining j")
            self.assertEqual(circuit.parts, (("a", number),))

    def test_one_name_for_a_source_a_part_and_a_joining(self):
        circuit = Circuit("circuit\nsource a 2\npart a 3\njoining a\ntie a a a")
        self.assertEqual(circuit.joinings, (("a", (("a", "a", "a"),)),))

    def test_words_of_the_text_may_be_names(self):
        text = "circuit\nsource source 1\npart part 1\njoining tie\ntie part source tie"
        self.assertEqual(Circuit(text).joinings, (("tie", (("part", "source", "tie"),)),))

    def test_a_joining_without_ties(self):
        circuit = Circuit("circuit\npart a 1\njoining j\njoining k\ntie a gnd gnd\njoining l")
        self.assertEqual(circuit.joinings, (("j", ()), ("k", (("a", "gnd", "gnd"),)), ("l", ())))

    def test_another_joining_may_tie_the_part_again(self):
        self.assertEqual(number_of_lines("circuit", "part a 1", "joining j", "tie a x y", "joining k", "tie a x y"), -1)


class Equality(unittest.TestCase):
    def test_equal_if_the_texts_are(self):
        one, same = Circuit("\n".join(PUMP)), Circuit("\n".join(PUMP))
        other = Circuit("\n".join(PUMP[:-1]))
        self.assertTrue(one == same)
        self.assertFalse(one != same)
        self.assertFalse(one == other)
        self.assertTrue(one != other)

    def test_equal_nothing_else(self):
        circuit = Circuit("\n".join(PUMP))
        for value in (circuit.text, 2, None, circuit.parts, (), [circuit], (circuit,), {}, True):
            self.assertFalse(circuit == value)
            self.assertFalse(value == circuit)

    def test_sequence_of_ties_tells_circuits_apart(self):
        head = "circuit\npart a 1\npart b 1\njoining j\n"
        self.assertFalse(Circuit(head + "tie a x y\ntie b x y") == Circuit(head + "tie b x y\ntie a x y"))


class Refused(unittest.TestCase):
    def test_no_string(self):
        for value in (None, 0, 1, True, (), ("circuit",), ["circuit"], {}, Circuit("\n".join(PUMP))):
            self.assertEqual(number_of(value), 0)

    def test_first_line(self):
        for text in ("", "\n", "circuit ", " circuit", "Circuit", "circuits", "circuit\r", "part a 1", "circuit circuit"):
            self.assertEqual(number_of(text), 1)
            self.assertEqual(number_of(text + "\n" + "\n".join(PUMP[1:])), 1)

    def test_what_the_document_tells(self):
        self.assertEqual(number_of("circuit\npart c 0\njoining j"), 2)
        self.assertEqual(number_of("circuit\npart c 1"), 3)
        self.assertEqual(number_of("circuit\njoining j"), 2)
        self.assertEqual(number_of_lines(*PUMP, "tie e x gnd"), 10)
        self.assertEqual(number_of_lines(*PUMP, "tie d x v"), 10)

    def test_no_part_or_no_joining_at_all(self):
        self.assertEqual(number_of("circuit"), 2)
        self.assertEqual(number_of("circuit\nsource s 1"), 3)
        self.assertEqual(number_of("circuit\nsource s 1\npart a 1\npart b 1"), 5)
        self.assertEqual(number_of("circuit\nsource s 1\njoining j"), 3)

    def test_a_line_feed_at_the_end(self):
        self.assertEqual(number_of_lines(*PUMP, ""), 10)
        self.assertEqual(number_of("circuit\n"), 2)
        self.assertEqual(number_of("circuit\npart a 1\n"), 3)

    def test_blanks(self):
        for at in range(len(PUMP)):
            wrong = [PUMP[at] + " ", " " + PUMP[at], PUMP[at].replace(" ", "  ", 1) if at else "circuit  "]
            wrong += ["", " "] + ([PUMP[at].replace(" ", "\t", 1)] if at else [])
            for line in wrong:
                with self.subTest(at=at, line=line):
                    self.assertEqual(number_of_lines(*PUMP[:at], line, *PUMP[at + 1:]), at + 1)

    def test_other_ends_of_lines(self):
        self.assertEqual(number_of("circuit\r\npart a 1\r\njoining j"), 1)
        self.assertEqual(number_of("circuit\npart a 1\r\njoining j"), 2)
        self.assertEqual(number_of("circuit\npart a 1\x0cjoining j"), 2)

    def test_forms(self):
        wrong = [
            "circuit", "source", "source s", "source s 1 2", "part", "part e", "part e 1 2", "joining", "joining k l",
            "tie", "tie d", "tie d x", "tie d x y z", "Joining k", "joinings k", "ties d x y", "join k", "tied", "#",
            "JOINING k", "comment", "undo", "parts e 1", "sources s 1", "size d 1", "put d 1", "Part e 1", "Source s 1",
            "Tie d x y", "lie d x y",
        ]
        for line in wrong:
            with self.subTest(line=line):
                self.assertEqual(number_of_lines(*PUMP[:6], line, *PUMP[6:]), 7)
                self.assertEqual(number_of_lines("circuit", line, *PUMP[1:]), 2)
                self.assertEqual(number_of_lines(*PUMP[:3], line, *PUMP[3:]), 4)

    def test_names(self):
        for name in ["a", "abcdef", "zzzzzz", "gnds", "gn", "gndgnd"]:
            self.assertEqual(number_of_lines("circuit", f"source {name} 1", "part a 1", "joining j"), -1)
            self.assertEqual(number_of_lines("circuit", f"part {name} 1", "joining j", f"tie {name} x y"), -1)
            self.assertEqual(number_of_lines("circuit", "part a 1", f"joining {name}", f"tie a {name} y"), -1)
        for name in NO_NAMES + ["gnd"]:
            with self.subTest(name=name):
                self.assertEqual(number_of_lines("circuit", f"source {name} 1", "part a 1", "joining j"), 2)
                self.assertEqual(number_of_lines("circuit", f"part {name} 1", "joining j"), 2)
                self.assertEqual(number_of_lines("circuit", "part a 1", f"joining {name}"), 3)
                self.assertEqual(number_of_lines("circuit", "part a 1", "joining j", f"tie {name} x y"), 4)

    def test_names_of_junctions(self):
        for name in NO_NAMES:
            with self.subTest(name=name):
                self.assertEqual(number_of_lines("circuit", "part a 1", "joining j", f"tie a {name} y"), 4)
                self.assertEqual(number_of_lines("circuit", "part a 1", "joining j", f"tie a x {name}"), 4)
        self.assertEqual(number_of_lines("circuit", "part a 1", "joining j", "tie a gnd gnd"), -1)

    def test_fractions(self):
        for word in NO_FRACTION_WORDS:
            with self.subTest(word=word):
                self.assertEqual(number_of_lines("circuit", f"source s {word}", "part a 1", "joining j"), 2)
                self.assertEqual(number_of_lines("circuit", f"part a {word}", "joining j"), 2)

    def test_sizes_are_above_nought(self):
        for word in ("0", "-1", "-1/2"):
            self.assertEqual(number_of_lines("circuit", f"source s {word}", "part a 1", "joining j"), -1)
            self.assertEqual(number_of_lines("circuit", f"part a {word}", "joining j"), 2)

    def test_sequence_of_lines(self):
        self.assertEqual(number_of_lines("circuit", "part a 1", "source s 1", "joining j"), 3)
        self.assertEqual(number_of_lines("circuit", "part a 1", "joining j", "source s 1"), 4)
        self.assertEqual(number_of_lines("circuit", "part a 1", "joining j", "part b 1"), 4)
        self.assertEqual(number_of_lines("circuit", "part a 1", "joining j", "tie a x y", "part b 1"), 5)
        self.assertEqual(number_of_lines("circuit", "joining j", "part a 1"), 2)
        self.assertEqual(number_of_lines("circuit", "source s 1", "joining j", "part a 1"), 3)
        self.assertEqual(number_of_lines("circuit", "part a 1", "tie a x y", "joining j"), 3)
        self.assertEqual(number_of_lines("circuit", "tie a x y", "part a 1", "joining j"), 2)

    def test_most_sources_parts_and_joinings(self):
        sources = [f"source {letter} 1" for letter in "abcde"]
        parts = [f"part {letter} 1" for letter in "abcdefghi"]
        joinings = [f"joining {letter}" for letter in "abcdefg"]
        self.assertEqual(number_of_lines("circuit", *sources[:4], *parts[:8], *joinings[:6]), -1)
        self.assertEqual(number_of_lines("circuit", *sources, *parts[:8], *joinings[:6]), 6)
        self.assertEqual(number_of_lines("circuit", *sources[:4], *parts, *joinings[:6]), 14)
        self.assertEqual(number_of_lines("circuit", *sources[:4], *parts[:8], *joinings), 20)
        self.assertEqual(number_of_lines("circuit", *parts, *joinings), 10)

    def test_names_for_the_second_time(self):
        start = ["circuit", "source s 1", "source t 2"]
        self.assertEqual(number_of_lines(*start, "source s 3", "part a 1", "joining j"), 4)
        self.assertEqual(number_of_lines(*start, "part a 1", "part b 1", "part a 2", "joining j"), 6)
        self.assertEqual(number_of_lines(*start, "part a 1", "joining j", "tie a x y", "joining k", "joining j"), 8)

    def test_ties(self):
        start = ["circuit", "source s 1", "part a 1", "part b 1", "joining j", "tie a x y"]
        self.assertEqual(number_of_lines(*start, "tie c x y"), 7)
        self.assertEqual(number_of_lines(*start, "tie s x y"), 7)
        self.assertEqual(number_of_lines(*start, "tie x x y"), 7)
        self.assertEqual(number_of_lines(*start, "tie gnd x y"), 7)
        self.assertEqual(number_of_lines(*start, "tie b x y", "tie a y x"), 8)
        self.assertEqual(number_of_lines(*start, "joining k", "tie a x y", "tie a x y"), 9)

    def test_the_first_wrong_line_counts(self):
        self.assertEqual(number_of_lines("circuit", "part a 1", "joining J", "tie a", "part a 1"), 3)
        self.assertEqual(number_of_lines("circuit", "part a 1", "part a 1", "joining J"), 3)
        self.assertEqual(number_of_lines("circuit", "part a 1", ""), 3)


class Names(unittest.TestCase):
    def test_what_is_a_name(self):
        self.assertTrue(all(is_name(word) for word in ("a", "zzzzzz", "gn", "gnds")))
        self.assertFalse(any(is_name(word) for word in NO_NAMES + ["gnd"]))

    def test_what_is_no_string_is_no_name(self):
        self.assertFalse(any(is_name(value) for value in (None, 0, True, (), ("a",), ["a"], {"a": 1}, b"a")))


class Others(Refusing):
    def setUp(self):
        self.lines = PUMP[:2] + ["source low -1/3"] + PUMP[2:]
        self.circuit = Circuit("\n".join(self.lines))

    def changed(self, at, line):
        return "\n".join(self.lines[:at] + [line] + self.lines[at + 1:])

    def test_with_size(self):
        self.assertEqual(with_size(self.circuit, "c", (7, 2)).text, self.changed(3, "part c 7/2"))
        self.assertEqual(with_size(self.circuit, "d", (3, 1)).text, self.changed(4, "part d 3"))
        self.assertEqual(with_size(circuit=self.circuit, part="d", size=(1, 2)), self.circuit)
        self.assertIs(type(with_size(self.circuit, "d", (1, 2))), Circuit)

    def test_with_source(self):
        self.assertEqual(with_source(self.circuit, "v", (-1, 2)).text, self.changed(1, "source v -1/2"))
        self.assertEqual(with_source(self.circuit, "low", (0, 1)).text, self.changed(2, "source low 0"))
        self.assertEqual(with_source(circuit=self.circuit, source="low", voltage=(-1, 3)), self.circuit)

    def test_grounded(self):
        lines = self.lines[:1] + ["source v 0", "source low 0"] + self.lines[3:]
        self.assertEqual(grounded(self.circuit).text, "\n".join(lines))
        self.assertEqual(grounded(circuit=grounded(self.circuit)), grounded(self.circuit))
        bare = Circuit("circuit\npart a 1\njoining j")
        self.assertEqual(grounded(bare), bare)

    def test_names_that_a_source_a_part_and_a_joining_share(self):
        circuit = Circuit("circuit\nsource a 2\npart b 1\npart a 3\njoining a")
        self.assertEqual(with_size(circuit, "a", (4, 1)).text.split("\n")[1:4], ["source a 2", "part b 1", "part a 4"])
        self.assertEqual(with_source(circuit, "a", (4, 1)).text.split("\n")[1:4], ["source a 4", "part b 1", "part a 3"])

    def test_the_circuit_itself_stays(self):
        told = (self.circuit.text, self.circuit.sources, self.circuit.parts, self.circuit.joinings)
        with_size(self.circuit, "c", (9, 1))
        with_source(self.circuit, "v", (9, 1))
        grounded(self.circuit)
        for wrong in (("x", (9, 1)), ("c", (0, 1))):
            self.assertRaises((NoPart, BadSize), with_size, self.circuit, *wrong)
        self.assertEqual((self.circuit.text, self.circuit.sources, self.circuit.parts, self.circuit.joinings), told)

    def test_over_many_circuits(self):
        for seed in range(60):
            circuit = some_circuit(seed)
            sources, parts, joinings = parted(circuit)
            for at, (name, _) in enumerate(parts):
                changed = parts[:at] + [(name, "7/3")] + parts[at + 1:]
                self.assertEqual(with_size(circuit, name, (7, 3)).text, text_of(sources, changed, joinings))
            for at, (name, _) in enumerate(sources):
                changed = sources[:at] + [(name, "-7/3")] + sources[at + 1:]
                self.assertEqual(with_source(circuit, name, (-7, 3)).text, text_of(changed, parts, joinings))
            flat = [(name, 0) for name, _ in sources]
            self.assertEqual(grounded(circuit).text, text_of(flat, parts, joinings))
            self.assertEqual(grounded(circuit).sources, tuple((name, pair(0)) for name, _ in sources))

    def test_no_part_and_no_source(self):
        for value in ("v", "fill", "x", "gnd", "", "C", "c ", None, 0, True, (), ("c",), ["c"], {"c": 1}, self.circuit):
            self.refused(NoPart, value, with_size, self.circuit, value, (1, 1))
            self.refused(NoPart, value, with_size, self.circuit, value, (0, 1))
        for value in ("c", "fill", "x", "gnd", "", "V", None, 1, False, (), ("v",), ["v"], {"v": 1}, self.circuit):
            self.refused(NoSource, value, with_source, self.circuit, value, (1, 1))
            self.refused(NoSource, value, with_source, self.circuit, value, "1")

    def test_bad_sizes_and_voltages(self):
        for value in NO_FRACTIONS:
            self.refused(BadSize, value, with_size, self.circuit, "c", value)
            self.refused(BadVoltage, value, with_source, self.circuit, "v", value)
        for value in ((0, 1), (-1, 1), (-1, 2)):
            self.refused(BadSize, value, with_size, self.circuit, "c", value)
            self.assertEqual(with_source(self.circuit, "v", value).sources[0], ("v", value))


if __name__ == "__main__":
    unittest.main()
