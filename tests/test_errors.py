"""Section 16: errors."""

import unittest

from chargeturns import errors

NAMES = [
    "BadCircuit", "NoPart", "BadSize", "NoSource", "BadVoltage", "NoJoining", "BadStanding", "BadRow", "Unfit",
    "BadLot", "NoRest", "BadScript", "Empty", "BadRate", "BadWithin", "BadSeen", "BadSizes", "NoJunction",
    "BadCharge", "Floats", "BadLoad", "Drains", "NothingToUndo", "NothingToRedo", "NoTrial", "BadJournal",
    "BadWords",
]
VALUES = [None, 0, True, "word", (1, 2), [1, "a"], {"a": 1}, object(), 10 ** 50, ("lot", ((1, 1),))]


class Errors(unittest.TestCase):
    def test_all_errors_stand_directly_below_circuit_error(self):
        for name in NAMES:
            with self.subTest(name=name):
                self.assertEqual(getattr(errors, name).__bases__, (errors.CircuitError,))

    def test_circuit_error_is_directly_below_value_error(self):
        self.assertEqual(errors.CircuitError.__bases__, (ValueError,))

    def test_each_keeps_its_only_argument(self):
        for name in ["CircuitError"] + NAMES:
            for value in VALUES:
                with self.subTest(name=name, value=value):
                    self.assertIs(getattr(errors, name)(value).value, value)

    def test_each_takes_just_one_argument(self):
        for name in ["CircuitError"] + NAMES:
            with self.subTest(name=name):
                self.assertRaises(TypeError, getattr(errors, name))
                self.assertRaises(TypeError, getattr(errors, name), 1, 2)

    def test_each_can_be_raised_and_caught(self):
        for name in NAMES:
            with self.subTest(name=name), self.assertRaises(errors.CircuitError) as caught:
                raise getattr(errors, name)("why")
            self.assertEqual(caught.exception.value, "why")


if __name__ == "__main__":
    unittest.main()
