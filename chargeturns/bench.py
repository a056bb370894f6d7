"""A bench: a circuit with its voltages, under hands, whose deeds can be taken back and tried."""

from chargeturns.checks import check_joining, check_part, check_standing, names_of
from chargeturns.circuits import Circuit, with_size, with_source
from chargeturns.errors import BadVoltage, NothingToRedo, NothingToUndo, NoTrial
from chargeturns.ratios import ZERO, is_fraction, plus, total
from chargeturns.rests import left, rest
from chargeturns.scripts import run, squares_between
from chargeturns.sums import sum_of


class Trial:
    """A block of a bench: behind it the bench is as it was ahead of it, unless it is kept."""

    def __init__(self, bench):
        self.bench = bench
        self.outer = None
        self.past = ()
        self.future = ()
        # None as long as it is not kept: the end of a block may ask an attribute for None alone, not for its truth.
        self.kept = None

    def __enter__(self):
        bench = self.bench
        self.outer = bench.block
        self.past = bench.past
        self.future = bench.future
        bench.block = self
        return bench

    def __exit__(self, kind, value, trace):
        bench = self.bench
        bench.block = self.outer
        if kind is not None or self.kept is None:
            bench.past = self.past
            bench.future = self.future


class Bench:
    """A circuit and a standing, what deeds make of them, and the deeds that stand."""

    def __init__(self, text, standing):
        circuit = Circuit(text)
        check_standing(circuit, standing)
        # Of each deed that stands: itself, and the circuit, the standing and all that is lost behind it.
        # Ahead of the first one stands the beginning, without a deed.
        self.past = ((None, circuit, standing, ZERO),)
        # Likewise of each deed that can be done again, the next one last.
        self.future = ()
        self.block = None

    def __eq__(self, other):
        # The beginning and the deeds tell a journal; all else in the past follows from them.
        return isinstance(other, Bench) and self.past == other.past

    @property
    def circuit(self):
        """The circuit as it is now."""
        return self.past[-1][1]

    @property
    def standing(self):
        """The standing as it is now."""
        return self.past[-1][2]

    @property
    def lost(self):
        """All squares that the joinings of the deeds that stand lost."""
        return self.past[-1][3]

    @property
    def done(self):
        """How many deeds stand."""
        return len(self.past) - 1

    def join(self, joining):
        """Joins the parts so."""
        check_joining(self.circuit, joining)
        self._do_script(("join", joining), (joining,))

    def turn(self, script):
        """Does all joinings of the script, as one deed."""
        self._do_script(("turn", script), script)

    def put(self, part, voltage):
        """Gives the part this voltage."""
        check_part(self.circuit, part)
        if not is_fraction(voltage):
            raise BadVoltage(voltage)
        place = names_of(self.circuit.parts).index(part)
        standing = self.standing[:place] + (voltage,) + self.standing[place + 1:]
        self._stand(("put", part, voltage), self.circuit, standing, self.lost)

    def size(self, part, size):
        """Gives the part this size; its voltage stays."""
        circuit = with_size(self.circuit, part, size)
        self._stand(("size", part, size), circuit, self.standing, self.lost)

    def source(self, source, voltage):
        """Gives the source this voltage."""
        circuit = with_source(self.circuit, source, voltage)
        self._stand(("volt", source, voltage), circuit, self.standing, self.lost)

    def rest(self):
        """The rest of the standing as it is now."""
        return rest(self.circuit, self.standing)

    def left(self):
        """The square that is still to be lost on the way to the rest."""
        return left(self.circuit, self.standing)

    def worth(self, row):
        """The sum of the row in the standing as it is now."""
        return sum_of(self.circuit, row, self.standing)

    def undo(self):
        """Takes the last deed back that stands."""
        if self.done == 0:
            raise NothingToUndo(None)
        self.future = self.future + self.past[-1:]
        self.past = self.past[:-1]

    def redo(self):
        """Does the deed again that was taken back last."""
        if not self.future:
            raise NothingToRedo(None)
        self.past = self.past + self.future[-1:]
        self.future = self.future[:-1]

    def trial(self):
        """A block, to be entered once, behind which the bench is as it was, unless keep is called in it."""
        return Trial(self)

    def keep(self):
        """Keeps what is done in the innermost block."""
        if self.block is None:
            raise NoTrial(None)
        self.block.kept = True

    def tried(self, look, *, keep=False):
        """What look tells of the bench, called within a block, which is kept if keep is True."""
        with self.trial() as held:
            told = look(held)
            if keep is True:
                held.keep()
        return told

    def copy(self):
        """An independent bench, alike in all things, outside of all blocks."""
        _, circuit, standing, _ = self.past[0]
        other = Bench(circuit.text, standing)
        other.past = self.past
        other.future = self.future
        return other

    def _do_script(self, deed, script):
        """A deed by which all joinings of the script are done."""
        standings = run(self.circuit, script, self.standing)
        squares = squares_between(self.circuit, standings, standings[1:])
        self._stand(deed, self.circuit, standings[-1], plus(self.lost, total(squares)))

    def _stand(self, deed, circuit, standing, squares):
        """Lets a deed stand, with the circuit, the standing and all that is lost behind it."""
        self.past = self.past + ((deed, circuit, standing, squares),)
        self.future = ()
