"""The interface: names, parameters, and the files in which all of it is defined."""

import importlib
import inspect
import unittest

FUNCTIONS = {
    "circuits": {
        "with_size": ["circuit", "part", "size"],
        "with_source": ["circuit", "source", "voltage"],
        "grounded": ["circuit"],
    },
    "joinings": {
        "does_fit": ["circuit", "joining", "standing"],
        "joined": ["circuit", "joining", "standing"],
        "flow": ["circuit", "joining", "standing"],
        "lost": ["circuit", "joining", "standing"],
        "square": ["circuit", "row"],
        "potentials": ["circuit", "joining", "standing"],
        "shows_potentials": ["circuit", "joining", "standing", "value"],
        "either_way": ["circuit", "first", "second"],
        "shows_either_way": ["circuit", "first", "second", "value"],
    },
    "sums": {
        "directions": ["circuit", "joining"],
        "kept_rows": ["circuit"],
        "sum_of": ["circuit", "row", "standing"],
        "is_kept": ["circuit", "row"],
        "shows_is_kept": ["circuit", "row", "value"],
    },
    "rests": {
        "any_rest": ["circuit"],
        "shows_any_rest": ["circuit", "value"],
        "draws": ["circuit", "lot"],
        "rest": ["circuit", "standing"],
        "left": ["circuit", "standing"],
        "one_rest": ["circuit", "one", "other"],
        "shows_one_rest": ["circuit", "one", "other", "value"],
        "hangs": ["circuit", "part"],
        "shows_hangs": ["circuit", "part", "value"],
    },
    "scripts": {
        "behind": ["circuit", "script", "standing"],
        "run": ["circuit", "script", "standing"],
        "losses": ["circuit", "script", "standing"],
        "apart": ["circuit", "script", "one", "other"],
    },
    "cycles": {
        "own_kept": ["circuit", "script"],
        "cycle": ["circuit", "script", "standing"],
        "shows_cycle": ["circuit", "script", "standing", "value"],
        "lost_in_cycle": ["circuit", "script"],
        "supplied": ["circuit", "script"],
    },
}


class Interface(unittest.TestCase):
    def test_functions(self):
        for module, functions in FUNCTIONS.items():
            held = importlib.import_module(f"chargeturns.{module}")
            for name, parameters in functions.items():
                with self.subTest(module=module, name=name):
                    function = getattr(held, name)
                    self.assertTrue(inspect.isfunction(function))
                    self.assertEqual(function.__module__, f"chargeturns.{module}")
                    told = inspect.signature(function).parameters
                    self.assertEqual(list(told), parameters)
                    kinds = {parameter.kind for parameter in told.values()}
                    self.assertEqual(kinds, {inspect.Parameter.POSITIONAL_OR_KEYWORD})

    def test_circuit_class(self):
        held = importlib.import_module("chargeturns.circuits")
        self.assertEqual(held.Circuit.__module__, "chargeturns.circuits")
        self.assertIn("__len__", vars(held.Circuit))
        self.assertIn("__eq__", vars(held.Circuit))
        self.assertEqual(list(inspect.signature(held.Circuit).parameters), ["text"])
        circuit = held.Circuit(text="circuit\npart a 1\njoining j")
        for name in ("text", "sources", "parts", "joinings"):
            self.assertIn(name, vars(circuit))

    def test_error_classes_are_defined_in_their_file(self):
        held = importlib.import_module("chargeturns.errors")
        classes = [told for told in vars(held).values() if inspect.isclass(told)]
        self.assertEqual(len(classes), 28)
        self.assertEqual({told.__module__ for told in classes}, {"chargeturns.errors"})


if __name__ == "__main__":
    unittest.main()
