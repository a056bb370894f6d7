"""The interface: names, parameters, and the files in which all of it is defined."""

import importlib
import inspect
import unittest

FUNCTIONS = {
    "circuits": {
        "with_size": ["circuit", "part", "size"],
        "with_source": ["circuit", "source", "voltage"],
        "grounded": ["circuit"],
    },
    "joinings": {
        "does_fit": ["circuit", "joining", "standing"],
        "joined": ["circuit", "joining", "standing"],
        "flow": ["circuit", "joining", "standing"],
        "lost": ["circuit", "joining", "standing"],
        "square": ["circuit", "row"],
        "potentials": ["circuit", "joining", "standing"],
        "shows_potentials": ["circuit", "joining", "standing", "value"],
        "either_way": ["circuit", "first", "second"],
        "shows_either_way": ["circuit", "first", "second", "value"],
    },
    "sums": {
        "directions": ["circuit", "joining"],
        "kept_rows": ["circuit"],
        "sum_of": ["circuit", "row", "standing"],
        "is_kept": ["circuit", "row"],
        "shows_is_kept": ["circuit", "row", "value"],
    },
    "rests": {
        "any_rest": ["circuit"],
        "shows_any_rest": ["circuit", "value"],
        "draws": ["circuit", "lot"],
        "rest": ["circuit", "standing"],
        "left": ["circuit", "standing"],
        "one_rest": ["circuit", "one", "other"],
        "shows_one_rest": ["circuit", "one", "other", "value"],
        "hangs": ["circuit", "part"],
        "shows_hangs": ["circuit", "part", "value"],
    },
    "scripts": {
        "behind": ["circuit", "script", "standing"],
        "run": ["circuit", "script", "standing"],
        "losses": ["circuit", "script", "standing"],
        "apart": ["circuit", "script", "one", "other"],
    },
    "cycles": {
        "own_kept": ["circuit", "script"],
        "cycle": ["circuit", "script", "standing"],
        "shows_cycle": ["circuit", "script", "standing", "value"],
        "lost_in_cycle": ["circuit", "script"],
        "supplied": ["circuit", "script"],
    },
    "quickness": {
        "holds": ["circuit", "script", "rate"],
        "shows_holds": ["circuit", "script", "rate", "value"],
        "quickness": ["circuit", "script", "within"],
        "shows_quickness": ["circuit", "script", "within", "value"],
        "finite": ["circuit", "script"],
        "shows_finite": ["circuit", "script", "value"],
    },
    "looks": {
        "unseen": ["circuit", "seen"],
        "alike": ["circuit", "seen", "one", "other"],
        "shows_alike": ["circuit", "seen", "one", "other", "value"],
        "can_tell": ["circuit", "seen", "row"],
        "shows_can_tell": ["circuit", "seen", "row", "value"],
    },
    "sizes": {
        "with_sizes": ["circuit", "sizes"],
        "fixed_parts": ["circuit"],
        "for_all_sizes": ["circuit", "standing"],
        "shows_for_all_sizes": ["circuit", "standing", "value"],
    },
    "loads": {
        "loaded": ["circuit", "joining", "junction", "charge", "standing"],
        "loaded_cycle": ["circuit", "script", "load", "standing"],
        "slope": ["circuit", "script", "number", "junction"],
    },
    "journals": {
        "journal": ["bench"],
        "read_journal": ["text"],
    },
}

BENCH_METHODS = {
    "join": ["joining"],
    "turn": ["script"],
    "put": ["part", "voltage"],
    "size": ["part", "size"],
    "source": ["source", "voltage"],
    "rest": [],
    "left": [],
    "worth": ["row"],
    "undo": [],
    "redo": [],
    "trial": [],
    "keep": [],
    "tried": ["look", "keep"],
    "copy": [],
    "__eq__": ["other"],
}


class Interface(unittest.TestCase):
    def test_functions(self):
        for module, functions in FUNCTIONS.items():
            held = importlib.import_module(f"chargeturns.{module}")
            for name, parameters in functions.items():
                with self.subTest(module=module, name=name):
                    function = getattr(held, name)
                    self.assertTrue(inspect.isfunction(function))
                    self.assertEqual(function.__module__, f"chargeturns.{module}")
                    told = inspect.signature(function).parameters
                    self.assertEqual(list(told), parameters)
                    kinds = {parameter.kind for parameter in told.values()}
                    self.assertEqual(kinds, {inspect.Parameter.POSITIONAL_OR_KEYWORD})

    def test_circuit_class(self):
        held = importlib.import_module("chargeturns.circuits")
        self.assertEqual(held.Circuit.__module__, "chargeturns.circuits")
        self.assertIn("__len__", vars(held.Circuit))
        self.assertIn("__eq__", vars(held.Circuit))
        self.assertEqual(list(inspect.signature(held.Circuit).parameters), ["text"])
        circuit = held.Circuit(text="circuit\npart a 1\njoining j")
        for name in ("text", "sources", "parts", "joinings"):
            self.assertIn(name, vars(circuit))

    def test_bench_class(self):
        held = importlib.import_module("chargeturns.bench")
        self.assertEqual(held.Bench.__module__, "chargeturns.bench")
        self.assertEqual(list(inspect.signature(held.Bench).parameters), ["text", "standing"])
        for name, parameters in BENCH_METHODS.items():
            method = vars(held.Bench)[name]
            self.assertTrue(inspect.isfunction(method))
            self.assertEqual(list(inspect.signature(method).parameters), ["self"] + parameters)
        told = inspect.signature(held.Bench.tried).parameters["keep"]
        self.assertEqual((told.kind, told.default), (inspect.Parameter.KEYWORD_ONLY, False))
        bench = held.Bench(standing=((0, 1),), text="circuit\npart a 1\njoining j")
        for name in ("circuit", "standing", "lost", "done"):
            self.assertTrue(hasattr(bench, name))
            self.assertRaises(AttributeError, setattr, bench, name, None)

    def test_desk_class(self):
        held = importlib.import_module("chargeturns.desk")
        self.assertEqual(held.Desk.__module__, "chargeturns.desk")
        self.assertEqual(list(inspect.signature(held.Desk).parameters), ["text"])
        self.assertEqual(list(inspect.signature(vars(held.Desk)["say"]).parameters), ["self", "line"])
        desk = held.Desk(text="bench 0\ncircuit\npart a 1\njoining j")
        self.assertIs(type(desk.bench), importlib.import_module("chargeturns.bench").Bench)

    def test_error_classes_are_defined_in_their_file(self):
        held = importlib.import_module("chargeturns.errors")
        classes = [told for told in vars(held).values() if inspect.isclass(told)]
        self.assertEqual(len(classes), 28)
        self.assertEqual({told.__module__ for told in classes}, {"chargeturns.errors"})


if __name__ == "__main__":
    unittest.main()
