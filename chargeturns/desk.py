"""A desk: a bench that is worked on and asked by lines of text."""

from chargeturns.checks import names_of
from chargeturns.deeds import do_deed, read_deed
from chargeturns.errors import BadWords
from chargeturns.journals import read_journal
from chargeturns.ratios import fraction_text, read_row


class Desk:
    """The bench of a journal, and answers to lines."""

    def __init__(self, text):
        self.bench = read_journal(text)

    def say(self, line):
        """The answer to the line."""
        if not isinstance(line, str) or "\n" in line:
            raise BadWords(line)
        deed = read_deed(line)
        if deed is not None:
            do_deed(self.bench, deed)
            return "ok"
        words = line.split(" ")
        if words[0] == "worth":
            return self._worth(line, read_row(words[1:]))
        return self._answer(line)

    def _worth(self, line, row):
        if row is None:
            raise BadWords(line)
        return fraction_text(self.bench.worth(row))

    def _answer(self, line):
        """The answer to a line of one word that is no deed."""
        bench = self.bench
        if line == "undo":
            bench.undo()
            return "ok"
        if line == "redo":
            bench.redo()
            return "ok"
        if line == "circuit":
            return "; ".join(bench.circuit.text.split("\n")[1:])
        if line == "standing":
            return _voltages(bench, bench.standing)
        if line == "rest":
            return _voltages(bench, bench.rest())
        if line == "lost":
            return fraction_text(bench.lost)
        if line == "left":
            return fraction_text(bench.left())
        raise BadWords(line)


def _voltages(bench, standing):
    """For each part its name and its voltage, as a text."""
    names = names_of(bench.circuit.parts)
    return " ".join([f"{name}={fraction_text(voltage)}" for name, voltage in zip(names, standing)])
