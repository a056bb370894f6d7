"""Section 14: benches; section 3 (h)."""

import random
import unittest
from fractions import Fraction

from chargeturns.bench import Bench
from chargeturns.circuits import Circuit, with_size, with_source
from chargeturns.desk import Desk
from chargeturns.errors import (
    BadCircuit, BadRow, BadScript, BadSize, BadStanding, BadVoltage, CircuitError, NoJoining, NoPart, NoRest, NoSource,
    NothingToRedo, NothingToUndo, NoTrial,
)
from chargeturns.journals import journal, read_journal
from chargeturns.joinings import joined
from chargeturns.rests import any_rest, left, rest
from chargeturns.scripts import behind, losses
from chargeturns.sums import kept_rows, sum_of
from tests.making import (
    BELOW_NOUGHT, NO_FRACTIONS, NO_ROWS_OF_TWO, Refusing, any_values, circuits_of_both_kinds, fractions_of, pair, row,
    some_fraction, some_script, some_sharing, some_size, some_standing, square_between, wrong_scripts,
)
from tests.reckoning import names_of

TEXT = "\n".join([
    "circuit", "source e 6", "part a 1", "part b 2", "joining up", "tie a e gnd",
    "joining share", "tie a p gnd", "tie b p gnd", "joining idle",
])
TORN = "\n".join([
    "circuit", "source one 1", "source two 2", "part a 5", "part b 1", "joining p", "tie a one gnd",
    "joining q", "tie a two gnd",
])
EMPTY = row(0, 0)


def all_of(bench):
    """All that a bench tells, also of what can be undone and done again: by a copy."""
    told = [journal(bench), bench.circuit.text, bench.standing, bench.lost, bench.done]
    other, ways = bench.copy(), []
    for go in (other.redo, other.undo):
        try:
            while True:
                go()
                ways.append((journal(other), other.standing, other.lost))
        except (NothingToUndo, NothingToRedo):
            ways.append(None)
    return told, ways


def some_deed(dice, bench):
    """A deed at random, as the name of a method and its arguments."""
    circuit = bench.circuit
    kind = dice.choice(["join", "join", "turn", "put", "size", "source"])
    if kind == "join":
        return kind, (dice.choice(names_of(circuit)),)
    if kind == "turn":
        return kind, (some_script(dice, circuit, dice.randint(0, 4)),)
    if kind == "put" or not circuit.sources and kind == "source":
        return "put", (dice.choice(circuit.parts)[0], pair(some_fraction(dice)))
    if kind == "size":
        return kind, (dice.choice(circuit.parts)[0], pair(some_size(dice)))
    return kind, (dice.choice(circuit.sources)[0], pair(some_fraction(dice)))


def done_by_hand(state, kind, told):
    """What circuit, standing and lost become by a deed."""
    circuit, standing, lost = state
    if kind in ("join", "turn"):
        script = told if kind == "join" else told[0]
        lost += sum(fractions_of(losses(circuit, script, standing)))
        return circuit, behind(circuit, script, standing), lost
    if kind == "put":
        numbers = [told[1] if name == told[0] else number for (name, _), number in zip(circuit.parts, standing)]
        return circuit, tuple(numbers), lost
    if kind == "size":
        return with_size(circuit, *told), standing, lost
    return with_source(circuit, *told), standing, lost


def some_benches(many):
    circuits = circuits_of_both_kinds(many) + [some_sharing(seed) for seed in range(many)]
    for at, circuit in enumerate(circuits):
        dice = random.Random(at)
        yield Bench(circuit.text, some_standing(dice, circuit)), dice


def a_bench():
    """A bench with two deeds that stand, and one that can be done again."""
    bench = Bench(TEXT, EMPTY)
    bench.join("up")
    bench.turn(("share", "up"))
    bench.put("b", (9, 1))
    bench.undo()
    return bench


class Deeds(unittest.TestCase):
    def test_at_first(self):
        bench = Bench(TEXT, row("1/2", -3))
        self.assertEqual((bench.circuit, bench.standing, bench.lost, bench.done), (Circuit(TEXT), row("1/2", -3), (0, 1), 0))
        self.assertEqual(type(bench.circuit), Circuit)

    def test_by_hand(self):
        bench = Bench(TEXT, EMPTY)
        self.assertIsNone(bench.join("up"))
        self.assertEqual((bench.standing, bench.lost, bench.done), (row(6, 0), (36, 1), 1))
        self.assertIsNone(bench.turn(("share", "up", "share")))
        self.assertEqual((bench.standing, bench.lost, bench.done), (row("10/3", "10/3"), (260, 3), 2))
        self.assertIsNone(bench.put("a", (-1, 2)))
        self.assertEqual((bench.standing, bench.lost, bench.done), (row("-1/2", "10/3"), (260, 3), 3))
        self.assertIsNone(bench.size("b", (3, 1)))
        self.assertEqual((bench.standing, bench.lost, bench.circuit.parts[1]), (row("-1/2", "10/3"), (260, 3), ("b", (3, 1))))
        self.assertIsNone(bench.source("e", (0, 1)))
        self.assertEqual((bench.circuit.sources, bench.done), ((("e", (0, 1)),), 5))
        bench.join("up")
        self.assertEqual((bench.standing, bench.lost), (row(0, "10/3"), pair(Fraction(260, 3) + Fraction(1, 4))))

    def test_what_changes_nothing_is_a_deed_too(self):
        bench = Bench(TEXT, row(6, 6))
        for deed in (
            lambda: bench.join("idle"), lambda: bench.join("share"), lambda: bench.turn(()), lambda: bench.put("a", (6, 1)),
            lambda: bench.size("b", (2, 1)), lambda: bench.source("e", (6, 1)),
        ):
            self.assertIsNone(deed())
        self.assertEqual((bench.done, bench.standing, bench.lost, bench.circuit.text), (6, row(6, 6), (0, 1), TEXT))
        bench.undo()
        self.assertEqual(bench.done, 5)

    def test_walks(self):
        for bench, dice in some_benches(40):
            states = [(bench.circuit, bench.standing, Fraction(0))]
            place = 0
            for _ in range(14):
                if dice.random() < 0.3 and place > 0:
                    self.assertIsNone(bench.undo())
                    place -= 1
                elif dice.random() < 0.5 and place < len(states) - 1:
                    self.assertIsNone(bench.redo())
                    place += 1
                else:
                    kind, told = some_deed(dice, bench)
                    self.assertIsNone(getattr(bench, kind)(*told))
                    states = states[:place + 1] + [done_by_hand(states[place], kind, told)]
                    place += 1
                circuit, standing, lost = states[place]
                self.assertEqual((bench.circuit, bench.standing, bench.lost), (circuit, standing, pair(lost)))
                self.assertEqual((bench.done, bench.circuit.text), (place, circuit.text))
            self.assertEqual(len(all_of(bench)[1]), len(states) - 1 - place + len(states) - 1 + 2)

    def test_what_it_tells(self):
        rests = 0
        for bench, dice in some_benches(30):
            for _ in range(3):
                kind, told = some_deed(dice, bench)
                getattr(bench, kind)(*told)
            circuit, standing = bench.circuit, bench.standing
            numbers = some_standing(dice, circuit)
            self.assertEqual(bench.worth(numbers), sum_of(circuit, numbers, standing))
            if any_rest(circuit)[0] == "rest":
                rests += 1
                self.assertEqual((bench.rest(), bench.left()), (rest(circuit, standing), left(circuit, standing)))
            else:
                for ask in (bench.rest, bench.left):
                    with self.assertRaises(NoRest) as caught:
                        ask()
                    self.assertEqual(caught.exception.value, any_rest(circuit))
        self.assertTrue(30 < rests < 90)

    def test_kept_sums_lost_and_left(self):
        many = 0
        for bench, dice in some_benches(40):
            circuit, start = bench.circuit, bench.standing
            has_rest = any_rest(circuit)[0] == "rest"
            for _ in range(4):
                if dice.random() < 0.5:
                    bench.join(dice.choice(names_of(circuit)))
                else:
                    bench.turn(some_script(dice, circuit, dice.randint(0, 5)))
                if dice.random() < 0.3:
                    bench.undo()
                for kept in kept_rows(circuit):
                    self.assertEqual(bench.worth(kept), sum_of(circuit, kept, start))
                if has_rest:
                    many += 1
                    whole = Fraction(*bench.lost) + Fraction(*bench.left())
                    self.assertEqual(pair(whole), left(circuit, start))
                    self.assertEqual(bench.rest(), rest(circuit, start))
        self.assertGreater(many, 200)

    def test_what_was_handed_in_stays(self):
        bench = Bench(TEXT, EMPTY)
        circuit = bench.circuit
        bench.size("a", (9, 1))
        bench.source("e", (1, 9))
        self.assertEqual((circuit.text, EMPTY), (TEXT, ((0, 1), (0, 1))))

    def test_great_numbers(self):
        parts = ["part a 997/13", "part b 991/983", "part c 977/7"]
        lines = ["circuit"] + parts + ["joining ab", "tie a x gnd", "tie b x gnd", "joining bc", "tie b y gnd", "tie c y gnd"]
        bench = Bench("\n".join(lines), row(1, 0, 0))
        while bench.standing[0][0].bit_length() < 15000:
            bench.turn(("ab", "bc") * 20)
        great, done = bench.standing, bench.done
        self.assertEqual(Fraction(*bench.lost) + Fraction(*bench.left()), Fraction(*left(bench.circuit, row(1, 0, 0))))
        self.assertEqual(bench.worth(row(1, 1, 1)), (997, 13))
        other = Bench("\n".join(lines), great)
        other.put("a", great[1])
        other.size("b", great[0])
        other.join("ab")
        self.assertEqual(other, other.copy())
        self.assertNotEqual(other, bench)
        # Side by side a and b have the same voltage already.
        self.assertEqual(other.standing, (great[1], great[1], great[2]))
        other.join("bc")
        share = Fraction(*great[0]) / (Fraction(*great[0]) + Fraction(977, 7))
        told = Fraction(*great[1]) * share + Fraction(*great[2]) * (1 - share)
        self.assertEqual(other.standing, (great[1], pair(told), pair(told)))
        self.assertEqual(bench.done, done)


class UndoRedo(Refusing):
    def test_at_once(self):
        bench = Bench(TEXT, EMPTY)
        for _ in range(2):
            self.refused(NothingToUndo, None, bench.undo)
            self.refused(NothingToRedo, None, bench.redo)
        self.assertEqual((bench.done, bench.standing), (0, EMPTY))

    def test_several_in_a_row(self):
        bench = Bench(TEXT, EMPTY)
        bench.join("up")
        bench.source("e", (3, 1))
        bench.size("a", (5, 1))
        bench.join("share")
        told = [(bench.standing, bench.lost, bench.circuit.text, bench.done)]
        for _ in range(4):
            bench.undo()
            told.append((bench.standing, bench.lost, bench.circuit.text, bench.done))
        self.assertEqual(told[-1], (EMPTY, (0, 1), TEXT, 0))
        self.assertEqual([state[3] for state in told], [4, 3, 2, 1, 0])
        self.refused(NothingToUndo, None, bench.undo)
        for state in told[-2::-1]:
            self.assertIsNone(bench.redo())
            self.assertEqual((bench.standing, bench.lost, bench.circuit.text, bench.done), state)
        self.refused(NothingToRedo, None, bench.redo)

    def test_a_deed_between(self):
        bench = a_bench()
        bench.redo()
        self.assertEqual((bench.standing, bench.done), (row(6, 9), 3))
        bench.undo()
        bench.undo()
        bench.join("idle")
        self.refused(NothingToRedo, None, bench.redo)
        self.assertEqual((bench.standing, bench.done), (row(6, 0), 2))
        bench.undo()
        self.assertEqual((bench.standing, bench.done), (row(6, 0), 1))
        bench.redo()
        self.assertEqual(bench.done, 2)

    def test_a_turn_is_one_deed(self):
        bench = Bench(TEXT, EMPTY)
        bench.turn(("up", "share") * 20)
        self.assertEqual(bench.done, 1)
        bench.undo()
        self.assertEqual((bench.standing, bench.lost, bench.done), (EMPTY, (0, 1), 0))

    def test_a_refused_deed_is_none(self):
        bench = a_bench()
        ahead = all_of(bench)
        for error, value, deed, *told in refusals():
            self.refused(error, value, getattr(bench, deed), *told)
            self.assertEqual(all_of(bench), ahead)
        bench.redo()
        self.assertEqual(bench.standing, row(6, 9))


def refusals():
    """Deeds that are refused, with the error and its value, of a bench of TEXT."""
    circuit = Circuit(TEXT)
    for value in ("x", "", "gnd", "e", "a", None, 0, True, (), ("up",), ["up"], {}, circuit):
        yield NoJoining, value, "join", value
    for value in ("x", "", "e", "up", None, 0, True, (), ("a",), ["a"], {}, circuit):
        for number in ((1, 1), (0, 1), None):
            yield NoPart, value, "put", value, number
            yield NoPart, value, "size", value, number
    for value in ("x", "", "a", "up", "gnd", None, 0, True, (), ("e",), ["e"], {}, circuit):
        for number in ((1, 1), None):
            yield NoSource, value, "source", value, number
    for value in NO_FRACTIONS + [circuit, "e"]:
        yield BadVoltage, value, "put", "a", value
        yield BadVoltage, value, "source", "e", value
        yield BadSize, value, "size", "b", value
    for value in BELOW_NOUGHT + [(0, 1)]:
        yield BadSize, value, "size", "b", value
    for value, number in wrong_scripts("up", circuit):
        yield BadScript, number, "turn", value


class Trials(Refusing):
    def test_not_kept(self):
        for bench, dice in some_benches(20):
            for _ in range(dice.randint(0, 4)):
                kind, told = some_deed(dice, bench)
                getattr(bench, kind)(*told)
            for _ in range(dice.randint(0, bench.done)):
                bench.undo()
            ahead = all_of(bench)
            with bench.trial() as held:
                self.assertIs(held, bench)
                self.walk(dice, bench)
            self.assertEqual(all_of(bench), ahead)
            self.refused(NoTrial, None, bench.keep)

    def walk(self, dice, bench):
        for _ in range(dice.randint(0, 8)):
            try:
                if dice.random() < 0.5:
                    dice.choice([bench.undo, bench.redo])()
                else:
                    kind, told = some_deed(dice, bench)
                    getattr(bench, kind)(*told)
            except (NothingToUndo, NothingToRedo):
                pass

    def test_kept(self):
        for bench, dice in some_benches(20):
            with bench.trial():
                if dice.random() < 0.5:
                    self.assertIsNone(bench.keep())
                self.walk(dice, bench)
                self.assertIsNone(bench.keep())
                after = all_of(bench)
            self.assertEqual(all_of(bench), after)

    def test_keep_first_and_go_on(self):
        bench = a_bench()
        with bench.trial():
            bench.keep()
            bench.undo()
            bench.undo()
            bench.put("a", (7, 1))
        self.assertEqual((bench.standing, bench.done), (row(7, 0), 1))
        self.refused(NothingToRedo, None, bench.redo)

    def test_undo_and_redo_reach_what_was_done_ahead(self):
        bench = a_bench()
        ahead = all_of(bench)
        with bench.trial():
            bench.undo()
            bench.undo()
            self.assertEqual((bench.standing, bench.done), (EMPTY, 0))
            self.refused(NothingToUndo, None, bench.undo)
            bench.redo()
            bench.redo()
            bench.redo()
            self.assertEqual((bench.standing, bench.done), (row(6, 9), 3))
        self.assertEqual(all_of(bench), ahead)
        with bench.trial():
            bench.undo()
            bench.join("share")
            self.refused(NothingToRedo, None, bench.redo)
        self.assertEqual(all_of(bench), ahead)
        with bench.trial():
            bench.undo()
            bench.keep()
        self.assertEqual(bench.done, 1)
        bench.redo()
        bench.redo()
        self.assertEqual((bench.standing, bench.done), (row(6, 9), 3))

    def test_one_within_another(self):
        for outer in (False, True):
            for inner in (False, True):
                bench = Bench(TEXT, EMPTY)
                with bench.trial():
                    bench.join("up")
                    with bench.trial() as held:
                        self.assertIs(held, bench)
                        bench.join("share")
                        if inner:
                            bench.keep()
                    self.assertEqual(bench.done, 2 if inner else 1)
                    bench.put("b", (1, 2))
                    if outer:
                        bench.keep()
                deeds = ["join up"] + ["join share"] * inner + ["put b 1/2"]
                self.assertEqual(journal(bench).split("\n")[11:], deeds if outer else [])
                self.refused(NoTrial, None, bench.keep)

    def test_keep_belongs_to_the_innermost(self):
        bench = Bench(TEXT, EMPTY)
        with bench.trial():
            bench.keep()
            with bench.trial():
                bench.join("up")
            self.assertEqual(bench.done, 0)
            bench.join("share")
        self.assertEqual(bench.done, 1)
        with bench.trial():
            with bench.trial():
                bench.keep()
                bench.join("up")
            with bench.trial():
                bench.join("up")
            self.assertEqual(bench.done, 2)
        self.assertEqual(bench.done, 1)

    def test_left_by_an_error(self):
        for error in (ValueError("x"), NoPart(1), KeyError(2), RuntimeError("why")):
            bench = a_bench()
            ahead = all_of(bench)
            with self.assertRaises(type(error)) as caught:
                with bench.trial():
                    bench.keep()
                    bench.undo()
                    bench.put("a", (1, 7))
                    raise error
            self.assertIs(caught.exception, error)
            self.assertEqual(all_of(bench), ahead)
            self.refused(NoTrial, None, bench.keep)

    def test_left_by_an_error_kept_or_not(self):
        for error in (ValueError("x"), NoTrial(None), KeyboardInterrupt(), StopIteration(1)):
            for keeps in range(4):
                bench = a_bench()
                ahead = all_of(bench)
                with self.assertRaises(type(error)) as caught:
                    with bench.trial():
                        bench.join("share")
                        for _ in range(keeps):
                            bench.keep()
                        raise error
                self.assertIs(caught.exception, error)
                self.assertEqual(all_of(bench), ahead)
                self.refused(NoTrial, None, bench.keep)

    def test_left_by_return_and_break(self):
        def returned(bench, kept):
            with bench.trial():
                bench.join("share")
                if kept:
                    bench.keep()
                return bench.done

        def broken(bench, kept):
            while True:
                with bench.trial():
                    bench.join("share")
                    if kept:
                        bench.keep()
                    break
            return 3

        for leave in (returned, broken):
            for kept in (False, True):
                bench = a_bench()
                self.assertEqual(leave(bench, kept), 3)
                self.assertEqual(bench.done, 3 if kept else 2)
                self.refused(NoTrial, None, bench.keep)

    def test_an_error_that_leaves_two_blocks(self):
        for inner in (False, True):
            bench = a_bench()
            ahead = all_of(bench)
            with self.assertRaises(NoJoining):
                with bench.trial():
                    bench.keep()
                    with bench.trial():
                        bench.join("share")
                        if inner:
                            bench.keep()
                        bench.join("nowhere")
            self.assertEqual(all_of(bench), ahead)
            self.refused(NoTrial, None, bench.keep)

    def test_an_error_behind_an_inner_block_that_is_kept(self):
        for outer in (False, True):
            bench = a_bench()
            ahead = all_of(bench)
            with self.assertRaises(ValueError):
                with bench.trial():
                    with bench.trial():
                        bench.join("share")
                        bench.keep()
                    self.assertEqual(bench.done, 3)
                    if outer:
                        bench.keep()
                    raise ValueError("behind")
            self.assertEqual(all_of(bench), ahead)

    def test_blocks_one_behind_the_other(self):
        bench = Bench(TEXT, EMPTY)
        for kept in (True, False, False, True, True, False):
            ahead = bench.done
            with bench.trial():
                bench.join("idle")
                if kept:
                    bench.keep()
                    bench.keep()
            self.assertEqual(bench.done, ahead + kept)
        self.assertEqual(bench.done, 3)

    def test_three_deep(self):
        for number in range(8):
            kept = [number // 4 == 1, number // 2 % 2 == 1, number % 2 == 1]
            bench = Bench(TEXT, EMPTY)
            with bench.trial():
                bench.join("up")
                with bench.trial():
                    bench.join("share")
                    with bench.trial():
                        bench.join("idle")
                        if kept[2]:
                            bench.keep()
                    if kept[1]:
                        bench.keep()
                if kept[0]:
                    bench.keep()
            deeds = ["join up"] + (["join share"] + ["join idle"] * kept[2]) * kept[1]
            self.assertEqual(journal(bench).split("\n")[11:], deeds * kept[0])
            self.refused(NoTrial, None, bench.keep)

    def test_an_error_within_an_inner_block(self):
        bench = Bench(TEXT, EMPTY)
        with bench.trial():
            bench.join("up")
            try:
                with bench.trial():
                    bench.keep()
                    bench.join("share")
                    bench.join("nowhere")
            except NoJoining as refused:
                self.assertEqual(refused.value, "nowhere")
            self.assertEqual((bench.standing, bench.done), (row(6, 0), 1))
            bench.keep()
        self.assertEqual((bench.standing, bench.done), (row(6, 0), 1))

    def test_a_refused_deed_that_is_caught_leaves_no_block(self):
        bench = Bench(TEXT, EMPTY)
        with bench.trial():
            bench.join("up")
            self.refused(NoPart, "x", bench.put, "x", (1, 1))
            bench.keep()
        self.assertEqual(bench.done, 1)

    def test_as_it_was_when_entered(self):
        bench = Bench(TEXT, EMPTY)
        block = bench.trial()
        bench.join("up")
        self.refused(NoTrial, None, bench.keep)
        with block:
            bench.join("share")
        self.assertEqual((bench.standing, bench.done), (row(6, 0), 1))

    def test_keep_outside(self):
        bench = a_bench()
        ahead = all_of(bench)
        for _ in range(2):
            self.refused(NoTrial, None, bench.keep)
        self.assertEqual(all_of(bench), ahead)


class Tried(Refusing):
    def test_what_look_returns(self):
        bench = a_bench()
        ahead = all_of(bench)
        for value in (None, 0, True, "x", (1, 2), [], bench):
            self.assertIs(bench.tried(lambda held: value), value)
        self.assertIs(bench.tried(lambda held: held), bench)
        self.assertEqual(bench.tried(look=lambda held: (held.join("share"), held.standing)[1]), row("10/3", "10/3"))
        self.assertEqual(all_of(bench), ahead)

    def test_kept_if_keep_is_true_alone(self):
        for keep in (True, False, 1, 0, None, "yes", (1, 1), [True], (True,)):
            bench = a_bench()
            ahead = all_of(bench)
            self.assertIsNone(bench.tried(lambda held: held.join("share"), keep=keep))
            if keep is True:
                self.assertEqual((bench.done, bench.standing), (3, row("10/3", "10/3")))
            else:
                self.assertEqual(all_of(bench), ahead)
            self.refused(NoTrial, None, bench.keep)

    def test_keep_stands_behind_a_star(self):
        self.assertRaises(TypeError, Bench(TEXT, EMPTY).tried, len, True)

    def test_a_look_that_calls_keep(self):
        def look(held):
            held.join("share")
            held.keep()
            return held.done

        for keep in (True, False):
            bench = a_bench()
            self.assertEqual(bench.tried(look, keep=keep), 3)
            self.assertEqual(bench.done, 3)

    def test_a_look_that_keeps_a_block_of_its_own(self):
        def look(held):
            with held.trial():
                held.join("share")
                held.keep()
            return held.done

        bench = a_bench()
        self.assertEqual(bench.tried(look), 3)
        self.assertEqual(bench.done, 2)
        self.assertEqual(bench.tried(look, keep=True), 3)
        self.assertEqual(bench.done, 3)

    def test_a_look_that_raises(self):
        def look(held):
            held.undo()
            held.keep()
            raise BadRow("mine")

        for keep in (True, False):
            bench = a_bench()
            ahead = all_of(bench)
            self.refused(BadRow, "mine", lambda: bench.tried(look, keep=keep))
            self.refused(NoRest, "x", lambda: bench.tried(lambda held: self.fail_with(NoRest("x"), held), keep=True))
            self.assertEqual(all_of(bench), ahead)
            self.refused(NoTrial, None, bench.keep)

    def fail_with(self, error, held):
        held.join("up")
        raise error

    def test_within_a_block(self):
        bench = Bench(TEXT, EMPTY)
        with bench.trial():
            bench.tried(lambda held: held.join("up"), keep=True)
            self.assertEqual(bench.done, 1)
            bench.tried(lambda held: held.tried(lambda inner: inner.join("share"), keep=True))
            self.assertEqual(bench.done, 1)
        self.assertEqual(bench.done, 0)


class Copies(Refusing):
    def test_alike_in_all_things(self):
        for bench, dice in some_benches(12):
            for _ in range(5):
                kind, told = some_deed(dice, bench)
                getattr(bench, kind)(*told)
            for _ in range(dice.randint(0, 5)):
                bench.undo()
            other = bench.copy()
            self.assertIs(type(other), Bench)
            self.assertIsNot(other, bench)
            self.assertEqual(all_of(other), all_of(bench))
            self.assertEqual(other, bench)

    def test_they_go_their_own_ways(self):
        bench = a_bench()
        other, ahead = bench.copy(), all_of(bench)
        other.redo()
        other.join("share")
        other.size("a", (4, 1))
        self.assertEqual(all_of(bench), ahead)
        self.assertNotEqual(other, bench)
        told = all_of(other)
        bench.undo()
        bench.undo()
        bench.source("e", (1, 1))
        self.assertEqual(all_of(other), told)

    def test_made_within_a_block(self):
        bench = a_bench()
        with bench.trial():
            bench.join("share")
            other = bench.copy()
            self.refused(NoTrial, None, other.keep)
            with other.trial():
                other.join("idle")
                other.keep()
            self.assertEqual((other.done, bench.done), (4, 3))
            bench.keep()
        self.assertEqual((other.done, bench.done), (4, 3))
        with bench.trial():
            bench.undo()
            other = bench.copy()
        self.assertEqual((other.done, bench.done), (2, 3))
        other.redo()
        self.assertEqual(other, bench)

    def test_the_block_of_a_copy(self):
        bench = a_bench()
        other = bench.copy()
        with other.trial():
            bench.join("share")
            self.refused(NoTrial, None, bench.keep)
            other.keep()
            other.undo()
        self.assertEqual((bench.done, other.done), (3, 1))


class Equality(unittest.TestCase):
    def test_by_journals(self):
        one, other = Bench(TEXT, EMPTY), Bench(TEXT, EMPTY)
        self.assertTrue(one == other and not one != other)
        one.join("up")
        self.assertTrue(one != other and not one == other)
        other.turn(("up",))
        # The same standing, but another deed.
        self.assertEqual(one.standing, other.standing)
        self.assertNotEqual(one, other)
        other.undo()
        other.join("up")
        self.assertEqual(one, other)
        one.put("a", (1, 1))
        one.undo()
        # What can be done again does not stand in a journal.
        self.assertEqual(one, other)

    def test_by_beginnings(self):
        one = Bench(TEXT, EMPTY)
        self.assertNotEqual(one, Bench(TEXT, row(0, 1)))
        self.assertNotEqual(one, Bench(TEXT.replace("part b 2", "part b 3"), EMPTY))
        self.assertNotEqual(one, Bench(TEXT.replace(" p ", " q "), EMPTY))
        begun, put = Bench(TEXT, row(5, 0)), Bench(TEXT, EMPTY)
        put.put("a", (5, 1))
        self.assertEqual(begun.standing, put.standing)
        self.assertNotEqual(begun, put)

    def test_over_many(self):
        for bench, dice in some_benches(12):
            other = Bench(bench.circuit.text, bench.standing)
            for _ in range(5):
                kind, told = some_deed(dice, bench)
                getattr(bench, kind)(*told)
                self.assertNotEqual(bench, other)
                getattr(other, kind)(*told)
                self.assertEqual(bench, other)
                self.assertEqual(journal(bench), journal(other))
                self.assertEqual(read_journal(journal(bench)), other)

    def test_nothing_else(self):
        bench = Bench(TEXT, EMPTY)
        others = [Circuit(TEXT), TEXT, journal(bench), EMPTY, Desk(journal(bench)), bench.trial()]
        for value in any_values(Circuit(TEXT)) + others:
            self.assertFalse(bench == value)
            self.assertFalse(value == bench)
            self.assertTrue(bench != value)


class Wrong(Refusing):
    def test_bad_circuit_then_bad_standing(self):
        for standing in (EMPTY, None):
            for value in (None, 0, True, (), [TEXT], {}, Circuit(TEXT)):
                self.refused_as_told(BadCircuit, 0, Bench, value, standing)
            self.refused_as_told(BadCircuit, 1, Bench, "", standing)
            self.refused_as_told(BadCircuit, 3, Bench, "circuit\npart a 1", standing)
            self.refused_as_told(BadCircuit, 11, Bench, TEXT + "\n", standing)
        for value in NO_ROWS_OF_TWO:
            self.refused(BadStanding, value, Bench, TEXT, value)

    def test_worth(self):
        bench = a_bench()
        ahead = all_of(bench)
        for value in NO_ROWS_OF_TWO:
            self.refused(BadRow, value, bench.worth, value)
        self.assertEqual(all_of(bench), ahead)

    def test_no_rest(self):
        bench = Bench(TORN, EMPTY)
        for ask in (bench.rest, bench.left):
            self.refused_as_told(NoRest, any_rest(Circuit(TORN)), ask)
        bench.source("two", (1, 1))
        self.assertEqual((bench.rest(), bench.left()), (row(1, 0), (5, 1)))
        bench.undo()
        self.assertRaises(NoRest, bench.rest)

    def test_by_name(self):
        bench = Bench(standing=EMPTY, text=TEXT)
        bench.turn(script=("up",))
        bench.put(voltage=(1, 1), part="b")
        bench.size(size=(7, 1), part="b")
        bench.source(voltage=(2, 1), source="e")
        self.assertEqual(bench.worth(row=row(1, 1)), (13, 1))
        self.assertEqual(bench.tried(keep=True, look=lambda held: held.undo()), None)
        self.assertEqual(journal(bench).split("\n")[11:], ["turn up", "put b 1", "size b 7"])

    def test_all_errors_are_refusals(self):
        for error, _, deed, *told in refusals():
            with self.assertRaises(CircuitError) as caught:
                getattr(a_bench(), deed)(*told)
            self.assertIs(type(caught.exception), error)

    def test_one_joining_after_another(self):
        bench = Bench(TEXT, EMPTY)
        for joining in ("up", "share", "up"):
            ahead = bench.standing, Fraction(*bench.lost)
            bench.join(joining)
            self.assertEqual(bench.standing, joined(Circuit(TEXT), joining, ahead[0]))
            step = square_between(Circuit(TEXT), ahead[0], bench.standing)
            self.assertEqual(Fraction(*bench.lost), ahead[1] + step)


if __name__ == "__main__":
    unittest.main()
