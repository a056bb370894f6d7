"""All errors of the package."""


class CircuitError(ValueError):
    """What all errors of the package are; its only argument is kept as value."""

    def __init__(self, value):
        self.value = value


class BadCircuit(CircuitError):
    """The text tells no circuit: the number of the line that cannot stand."""


class NoPart(CircuitError):
    """What is not the name of a part."""


class BadSize(CircuitError):
    """What is not a fraction above 0."""


class NoSource(CircuitError):
    """What is not the name of a source."""


class BadVoltage(CircuitError):
    """What is not a fraction."""


class NoJoining(CircuitError):
    """What is not the name of a joining."""


class BadStanding(CircuitError):
    """What is not a standing."""


class BadRow(CircuitError):
    """What is not a row."""


class Unfit(CircuitError):
    """A standing that does not fit its joining."""


class BadLot(CircuitError):
    """What is not a lot of charges."""


class NoRest(CircuitError):
    """The circuit has no rest: what is told instead of one."""


class BadScript(CircuitError):
    """What is not a script: the number of its first wrong part, or None."""


class Empty(CircuitError):
    """A script without joinings where one at least is needed."""


class BadRate(CircuitError):
    """What is not a rate."""


class BadWithin(CircuitError):
    """What is not a fraction above 0."""


class BadSeen(CircuitError):
    """What is not a tuple of parts in their sequence."""


class BadSizes(CircuitError):
    """What is not a tuple of sizes, one for each part."""


class NoJunction(CircuitError):
    """What is not a junction of the joining."""


class BadCharge(CircuitError):
    """What is not a fraction."""


class Floats(CircuitError):
    """A junction that hangs on neither ground nor source."""


class BadLoad(CircuitError):
    """What is not a load of the script."""


class Drains(CircuitError):
    """A kept row whose sum a load changes at each round."""


class NothingToUndo(CircuitError):
    """No deed stands."""


class NothingToRedo(CircuitError):
    """No deed was taken back."""


class NoTrial(CircuitError):
    """No block is open."""


class BadJournal(CircuitError):
    """The text tells no journal: the number of the line that cannot stand."""


class BadWords(CircuitError):
    """A line that a desk does not understand."""
