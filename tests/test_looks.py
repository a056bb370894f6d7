"""Section 11: what can be seen; section 3 (g) where it tells of looks."""

import random
import unittest
from fractions import Fraction
from itertools import product

from chargeturns.circuits import Circuit, grounded, with_source
from chargeturns.errors import BadRow, BadSeen, BadStanding
from chargeturns.joinings import joined
from chargeturns.looks import alike, can_tell, shows_alike, shows_can_tell, unseen
from chargeturns.scripts import behind
from tests.gaps import corners_of
from tests.making import (
    NO_FRACTIONS, NO_ROWS_OF_TWO, PART_NAMES, Refusing, any_values, called_otherwise, circuits_of_both_kinds,
    fractions_of, is_told_fraction, pair, row, some_fraction, some_script, some_sharing, some_signs, some_standing,
    text_of, turned_about, with_signs, wrong_scripts,
)
from tests.reckoning import is_plain_list, names_of, rank_of, with_kept

ROW = Circuit("\n".join([
    "circuit", "source s 3", "part a 1", "part b 1", "part c 1", "joining ab", "tie a x gnd", "tie b x gnd",
    "joining bc", "tie b x gnd", "tie c x gnd", "joining idle", "joining fill", "tie a s gnd",
]))
LONE = Circuit("circuit\nsource s 3\npart a 1\npart b 1\njoining load\ntie a s gnd")
ZERO3 = row(0, 0, 0)


def parts_of(circuit):
    return [name for name, _ in circuit.parts]


def some_seen(dice, circuit, at):
    """No part, one, some, or all, as they stand."""
    names = parts_of(circuit)
    many = (0, 1, 1, dice.randint(1, len(names)), len(names))[at % 5]
    chosen = dice.sample(names, many)
    return tuple(name for name in names if name in chosen)


def cases(many):
    """Circuits with a dice and seen parts."""
    circuits = circuits_of_both_kinds(many // 3) + [some_sharing(seed) for seed in range(many // 3)]
    for at, circuit in enumerate(circuits):
        dice = random.Random(at)
        yield circuit, dice, some_seen(dice, circuit, at)


def look_alike(circuit, seen, one, other):
    told = zip(parts_of(circuit), one, other)
    return all(a == b for name, a, b in told if name in seen)


def many_seen(circuit, seen):
    """How many rows it takes to make all sums that can be seen: those at seen parts, and what joinings make of them."""
    flat, corners = grounded(circuit), corners_of(circuit)
    moved = [[fractions_of(joined(flat, joining, corner)) for corner in corners] for joining in names_of(circuit)]
    rows = [[Fraction(name == part) for name in parts_of(circuit)] for part in seen]
    rank = rank_of(rows)
    while True:
        rows = rows + [[sum(a * b for a, b in zip(told, led)) for led in leads] for told in rows for leads in moved]
        more = rank_of(rows)
        if more == rank:
            return rank
        rank, rows = more, independent(rows)


def independent(rows):
    kept = []
    for told in rows:
        if rank_of(kept + [told]) > len(kept):
            kept.append(told)
    return kept


def is_made_of(numbers, rows):
    """Whether the row is a sum of multiples of these rows."""
    told = [fractions_of(other) for other in rows]
    return rank_of(told + [fractions_of(numbers)]) == rank_of(told)


def added(one, other, factor=1):
    return row(*[a + factor * b for a, b in zip(fractions_of(one), fractions_of(other))])


def plain_sum(one, other):
    return sum(a * b for a, b in zip(fractions_of(one), fractions_of(other)))


class Unseen(unittest.TestCase):
    def test_by_hand(self):
        self.assertEqual(unseen(ROW, ("a",)), ())
        self.assertEqual(unseen(ROW, ("c",)), ())
        self.assertEqual(unseen(LONE, ()), (row(1, 0), row(0, 1)))
        self.assertEqual(unseen(LONE, ("a", "b")), ())
        # What b and c have together, weighed by sizes, is all that comes to a.
        lines = ["circuit", "part a 1", "part b 2", "part c 3", "joining all", "tie a x gnd", "tie b x gnd", "tie c x gnd"]
        self.assertEqual(unseen(Circuit("\n".join(lines)), ("a",)), (row(0, 1, "-2/3"),))

    def test_over_many_circuits(self):
        sizes = []
        for circuit, dice, seen in cases(180):
            told, flat, many = unseen(circuit, seen), grounded(circuit), len(circuit)
            sizes.append(0 if not told else 2 if len(told) == many else 1)
            self.assertTrue(is_plain_list(told, many))
            self.assertTrue(all(is_told_fraction(number) for numbers in told for number in numbers))
            self.assertEqual(len(told), many - many_seen(circuit, seen))
            for numbers in told:
                self.assertTrue(look_alike(circuit, seen, numbers, row(*[0] * many)))
                for joining in names_of(circuit):
                    self.assertTrue(is_made_of(joined(flat, joining, numbers), told))
            self.assertEqual(unseen(Circuit(circuit.text), seen), told)
        self.assertTrue(all(sizes.count(kind) > 20 for kind in (0, 1, 2)))

    def test_none_seen_and_all_seen(self):
        for circuit, _, _ in cases(60):
            self.assertEqual(unseen(circuit, ()), tuple(corners_of(circuit)))
            self.assertEqual(unseen(circuit, tuple(parts_of(circuit))), ())

    def test_who_sees_more(self):
        for circuit, dice, seen in cases(120):
            more = tuple(name for name in parts_of(circuit) if name in seen or dice.random() < 0.4)
            told = unseen(circuit, seen)
            self.assertTrue(all(is_made_of(numbers, told) for numbers in unseen(circuit, more)))

    def test_sources_do_not_matter(self):
        for circuit, dice, seen in cases(90):
            told = unseen(circuit, seen)
            self.assertEqual(unseen(grounded(circuit), seen), told)
            self.assertEqual(unseen(called_otherwise(circuit), seen), told)
            for source, _ in circuit.sources[:1]:
                self.assertEqual(unseen(with_source(circuit, source, pair(some_fraction(dice))), seen), told)
            signs = some_signs(dice, circuit)
            turned = unseen(turned_about(circuit, signs), seen)
            self.assertEqual(len(turned), len(told))
            self.assertTrue(all(is_made_of(with_signs(signs, numbers), told) for numbers in turned))

    def test_joinings_that_tie_nothing(self):
        idle = Circuit("circuit\npart a 1\npart b 2\npart c 3\njoining i\njoining j")
        for seen in ((), ("a",), ("a", "c"), ("a", "b", "c")):
            hidden = tuple(corner for name, corner in zip("abc", corners_of(idle)) if name not in seen)
            self.assertEqual(unseen(idle, seen), hidden)


class Alike(unittest.TestCase):
    def test_by_hand(self):
        self.assertEqual(alike(ROW, ("a",), ZERO3, row(0, 0, 1)), ("parted", ("bc", "ab")))
        self.assertEqual(alike(ROW, ("a",), ZERO3, row(0, 1, 1)), ("parted", ("ab",)))
        self.assertEqual(alike(ROW, ("a",), ZERO3, row(1, 1, 1)), ("parted", ()))
        self.assertEqual(alike(ROW, ("a",), ZERO3, ZERO3), ("alike",))
        self.assertEqual(alike(ROW, (), ZERO3, row(1, 2, 3)), ("alike",))
        self.assertEqual(alike(LONE, ("a",), row(1, 1), row(1, 2)), ("alike",))
        self.assertEqual(alike(LONE, ("a",), row(1, 1), row(2, 1)), ("parted", ()))
        # Loaded, a has 3 in both.
        for script in (("idle",), ("fill",), ("ab",), ("idle", "ab"), ("ab", "fill"), ("bc", "ab")):
            shown = shows_alike(ROW, ("a",), ZERO3, row(0, 1, 1), ("parted", script))
            self.assertIs(shown, script in (("ab",), ("idle", "ab"), ("bc", "ab")))

    def test_over_many_circuits(self):
        answers = []
        for circuit, dice, seen in cases(180):
            one, hidden = some_standing(dice, circuit), unseen(circuit, seen)
            for other in (some_standing(dice, circuit), with_kept(dice, one, hidden), one):
                told = alike(circuit, seen, one, other)
                answers.append(told[0])
                self.assertEqual(alike(Circuit(circuit.text), seen, one, other), told)
                self.assertIs(shows_alike(circuit, seen, one, other, told), True)
                self.assertIs(shows_alike(circuit, seen, one, other, ("alike",)), told == ("alike",))
                self.assertIs(told == ("alike",), is_made_of(added(one, other, -1), hidden))
                if told != ("alike",):
                    self.check_parted(circuit, seen, one, other, told)
                self.check_scripts(circuit, dice, seen, one, other, told)
        self.assertGreater(answers.count("alike"), 300)
        self.assertGreater(answers.count("parted"), 100)

    def check_parted(self, circuit, seen, one, other, told):
        self.assertEqual((told[0], len(told), type(told[1])), ("parted", 2, tuple))
        self.assertLess(len(told[1]), len(circuit))
        ends = behind(circuit, told[1], one), behind(circuit, told[1], other)
        self.assertFalse(look_alike(circuit, seen, *ends))

    def check_scripts(self, circuit, dice, seen, one, other, told):
        for many in (0, 1, 2, 4, len(circuit) - 1, len(circuit), len(circuit) + 1):
            script = some_script(dice, circuit, many)
            parts = not look_alike(circuit, seen, behind(circuit, script, one), behind(circuit, script, other))
            self.assertFalse(parts and told == ("alike",))
            right = parts and many < len(circuit)
            self.assertIs(shows_alike(circuit, seen, one, other, ("parted", script)), right)

    def test_one_difference_alone(self):
        parted = []
        for circuit, dice, seen in cases(120):
            one = some_standing(dice, circuit)
            for corner in corners_of(circuit):
                told = alike(circuit, seen, one, added(one, corner, some_fraction(dice) or 1))
                self.assertIs(told == ("alike",), is_made_of(corner, unseen(circuit, seen)))
                parted += [len(told[1])] if told[0] == "parted" else []
        self.assertTrue(all(parted.count(many) > 5 for many in (0, 1, 2)))

    def test_all_scripts_by_trying_them(self):
        for circuit, dice, seen in cases(120):
            if len(circuit) < 4 and len(circuit.joinings) < 4:
                one = some_standing(dice, circuit)
                other = added(one, dice.choice(corners_of(circuit)))
                scripts = [script for many in range(5) for script in product(names_of(circuit), repeat=many)]
                ends = [(behind(circuit, script, one), behind(circuit, script, other)) for script in scripts]
                same = all(look_alike(circuit, seen, *end) for end in ends)
                self.assertIs(alike(circuit, seen, one, other) == ("alike",), same)

    def test_as_many_joinings_as_needed(self):
        # A difference at the last part comes to the first one by one joining for each part between them.
        names = PART_NAMES[:7]
        joinings = [(f"j{'abcdef'[k]}", [(names[k], "x", "gnd"), (names[k + 1], "x", "gnd")]) for k in range(6)]
        circuit = Circuit(text_of([], [(name, 2) for name in names], joinings))
        told = alike(circuit, (names[0],), row(*[0] * 7), row(*[0] * 6 + [5]))
        self.assertEqual(told, ("parted", ("jf", "je", "jd", "jc", "jb", "ja")))
        self.assertEqual(alike(circuit, (names[2],), row(*[0] * 7), row(*[0] * 6 + [5])), ("parted", told[1][:4]))
        self.assertIs(shows_alike(circuit, (names[0],), row(*[0] * 7), row(*[0] * 6 + [5]), told), True)
        longer = ("parted", told[1] + ("ja",))
        self.assertIs(shows_alike(circuit, (names[0],), row(*[0] * 7), row(*[0] * 6 + [5]), longer), False)

    def test_one_part(self):
        circuit = Circuit("circuit\npart a 1\njoining j\ntie a gnd gnd\njoining idle")
        self.assertEqual(alike(circuit, ("a",), row(1), row(2)), ("parted", ()))
        self.assertIs(shows_alike(circuit, ("a",), row(1), row(2), ("parted", ("idle",))), False)
        self.assertEqual(alike(circuit, (), row(1), row(2)), ("alike",))


class CanTell(unittest.TestCase):
    def test_by_hand(self):
        self.assertEqual(can_tell(LONE, ("a",), row(-5, 0)), ("told",))
        self.assertEqual(can_tell(LONE, ("a",), row(0, 0)), ("told",))
        self.assertEqual(can_tell(LONE, (), row(0, 0)), ("told",))
        self.assertEqual(can_tell(LONE, ("b",), row(1, 1)), ("hidden", row(1, 0)))
        # Without sizes: of b and c, side by side with a, it is the sum of size times voltage that can be told.
        lines = ["circuit", "part a 1", "part b 2", "part c 3", "joining all", "tie a x gnd", "tie b x gnd", "tie c x gnd"]
        circuit = Circuit("\n".join(lines))
        self.assertEqual(can_tell(circuit, ("a",), row(0, 2, 3)), ("told",))
        self.assertEqual(can_tell(circuit, ("a",), row(7, -1, "-3/2")), ("told",))
        self.assertEqual(can_tell(circuit, ("a",), row(0, 1, 1))[0], "hidden")

    def test_over_many_circuits(self):
        answers = []
        for circuit, dice, seen in cases(180):
            hidden = unseen(circuit, seen)
            for numbers in (some_standing(dice, circuit), corners_of(circuit)[dice.randrange(len(circuit))]):
                told = can_tell(circuit, seen, numbers)
                answers.append(told[0])
                self.assertEqual(can_tell(Circuit(circuit.text), seen, numbers), told)
                self.assertIs(shows_can_tell(circuit, seen, numbers, told), True)
                self.assertIs(shows_can_tell(circuit, seen, numbers, ("told",)), told == ("told",))
                self.assertIs(told == ("told",), all(plain_sum(numbers, other) == 0 for other in hidden))
                if told != ("told",):
                    self.check_hidden(circuit, seen, numbers, told, hidden)
                self.check_rows(circuit, dice, seen, numbers, hidden)
        self.assertGreater(answers.count("told"), 100)
        self.assertGreater(answers.count("hidden"), 100)

    def check_hidden(self, circuit, seen, numbers, told, hidden):
        self.assertEqual((told[0], len(told), len(told[1])), ("hidden", 2, len(circuit)))
        self.assertTrue(all(is_told_fraction(number) for number in told[1]))
        self.assertTrue(is_made_of(told[1], hidden))
        self.assertNotEqual(plain_sum(numbers, told[1]), 0)
        start = row(*range(len(circuit)))
        self.assertEqual(alike(circuit, seen, start, added(start, told[1])), ("alike",))

    def check_rows(self, circuit, dice, seen, numbers, hidden):
        nothing = row(*[0] * len(circuit))
        for other in (with_kept(dice, nothing, hidden), some_standing(dice, circuit), nothing):
            right = is_made_of(other, hidden) and plain_sum(numbers, other) != 0
            self.assertIs(shows_can_tell(circuit, seen, numbers, ("hidden", other)), right)

    def test_seen_parts_can_be_told(self):
        for circuit, _, seen in cases(90):
            for name, corner in zip(parts_of(circuit), corners_of(circuit)):
                if name in seen:
                    self.assertEqual(can_tell(circuit, seen, corner), ("told",))


class Shows(Refusing):
    def test_wrong_forms(self):
        one, other = ZERO3, row(0, 0, 1)
        self.refused_values(("parted", ("bc", "ab")), ROW, shows_alike, ROW, ("a",), one, other)
        self.refused_values(("alike",), ROW, shows_alike, ROW, (), one, other)
        self.refused_values(("told",), LONE, shows_can_tell, LONE, ("a",), row(1, 0))
        self.refused_values(("hidden", row(0, "-5/2")), LONE, shows_can_tell, LONE, ("a",), row(1, 1))
        for script, _ in wrong_scripts("ab", ROW):
            self.assertIs(shows_alike(ROW, ("a",), ZERO3, row(0, 1, 0), ("parted", script)), False)
        for value in (("parted", ("ab", "ab")), ("parted", ("ab",))):
            self.assertIs(shows_alike(ROW, ("a",), ZERO3, row(0, 1, 0), value), True)
        for value in (("parted", ("ab",) * 3), ("parted", "ab"), ("parted", ["ab"]), ("alike",), ("parted",)):
            self.assertIs(shows_alike(ROW, ("a",), ZERO3, row(0, 1, 0), value), False)
        for value in NO_FRACTIONS:
            self.assertIs(shows_can_tell(LONE, ("a",), row(1, 1), ("hidden", ((0, 1), value))), False)
        for value in (row(0, 0), row(1, 0), row(0), row(0, 1, 1)):
            self.assertIs(shows_can_tell(LONE, ("a",), row(1, 1), ("hidden", value)), False)
        self.assertIs(shows_can_tell(LONE, ("a",), row(1, 0), ("hidden", row(0, 1))), False)

    def test_any_value(self):
        for circuit, dice, seen in cases(12):
            one, other = some_standing(dice, circuit), some_standing(dice, circuit)
            told = alike(circuit, seen, one, other), can_tell(circuit, seen, one)
            for value in any_values(circuit, "alike", "parted", "told", "hidden"):
                if value != ("parted", ()):
                    self.assertIs(shows_alike(circuit, seen, one, other, value), value == ("alike",) == told[0])
                self.assertIs(shows_can_tell(circuit, seen, one, value), value == ("told",) == told[1])


class Wrong(Refusing):
    def bad_seen(self):
        yield from [None, 0, True, "", "a", ["a"], [], {}, {"a": 1}, LONE, ("c",), ("b", "a"), ("a", "a"), ("load",)]
        yield from [("s",), ("A",), ("a", "b", "b"), ("a", "b", "a"), (("a",),), ("a", None), (None,), (0,), (True,)]
        yield from [("a", 1), ("gnd",), ("",), ("a ",), (["a"],), ({},), (LONE,), ("a",) * 100, ("b", "c")]

    def calls(self, seen, numbers=row(1, 2)):
        yield unseen, LONE, seen
        yield alike, LONE, seen, numbers, numbers
        yield shows_alike, LONE, seen, numbers, numbers, ("alike",)
        yield can_tell, LONE, seen, numbers
        yield shows_can_tell, LONE, seen, numbers, ("told",)

    def test_bad_seen(self):
        for seen in self.bad_seen():
            for numbers in (row(1, 2), None, row(1)):
                for call in self.calls(seen, numbers):
                    self.refused(BadSeen, seen, *call)

    def test_bad_standing(self):
        for value in NO_ROWS_OF_TWO:
            for seen in ((), ("a",), ("a", "b")):
                self.refused(BadStanding, value, alike, LONE, seen, value, row(1, 1))
                self.refused(BadStanding, value, alike, LONE, seen, row(1, 1), value)
                self.refused(BadStanding, value, shows_alike, LONE, seen, value, row(1, 1), ("alike",))
                self.refused(BadStanding, value, shows_alike, LONE, seen, row(1, 1), value, ("alike",))
        self.refused(BadStanding, "one", alike, LONE, ("a",), "one", "other")
        self.refused(BadStanding, "one", shows_alike, LONE, (), "one", "other", None)

    def test_bad_row(self):
        for value in NO_ROWS_OF_TWO:
            for seen in ((), ("a",), ("a", "b")):
                self.refused(BadRow, value, can_tell, LONE, seen, value)
                self.refused(BadRow, value, shows_can_tell, LONE, seen, value, ("told",))

    def test_by_name(self):
        self.assertEqual(unseen(seen=("a",), circuit=LONE), (row(0, 1),))
        self.assertEqual(alike(other=row(1, 2), one=row(1, 1), seen=("a",), circuit=LONE), ("alike",))
        shown = shows_alike(value=("alike",), other=row(1, 2), one=row(1, 1), seen=("a",), circuit=LONE)
        self.assertIs(shown, True)
        self.assertEqual(can_tell(row=row(1, 0), seen=("a",), circuit=LONE), ("told",))
        self.assertIs(shows_can_tell(value=("told",), row=row(1, 0), seen=("a",), circuit=LONE), True)

    def test_what_was_told_handed_in_again(self):
        lines = ["circuit", "source s 7", "part a 997/13", "part b 991/983", "part c 977/7", "part d 7919/89"]
        lines += ["joining ab", "tie a x gnd", "tie b x gnd", "joining bc", "tie b y gnd", "tie c s y", "joining all"]
        lines += ["tie c x gnd", "tie d x y", "tie a y gnd"]
        circuit = Circuit("\n".join(lines))
        start = row(0, 0, 1, 0)
        for _ in range(6):
            start = behind(circuit, ("ab", "bc", "all", "bc") * 10, start)
        self.assertGreater(max(len(str(number)) for told in start for number in told), 1000)
        self.assertEqual(alike(circuit, ("b",), start, start), ("alike",))
        told = alike(circuit, ("b",), start, row(0, 0, 0, 0))
        self.assertIs(shows_alike(circuit, ("b",), start, row(0, 0, 0, 0), told), True)
        for seen in ((), ("a",), ("a", "b", "c", "d")):
            told = can_tell(circuit, seen, start)
            self.assertIs(shows_can_tell(circuit, seen, start, told), True)
        self.assertIs(shows_can_tell(circuit, (), row(1, 0, 0, 0), ("hidden", start)), True)


if __name__ == "__main__":
    unittest.main()
