"""Journals: texts of benches."""

from chargeturns.bench import Bench
from chargeturns.circuits import Circuit
from chargeturns.deeds import DEED_WORDS, deed_line, do_deed, read_deed
from chargeturns.errors import BadCircuit, BadJournal, CircuitError
from chargeturns.ratios import fraction_text, read_row


def journal(bench):
    """The text of the bench: how it began, and the deeds that stand."""
    _, circuit, standing, _ = bench.past[0]
    first = " ".join(["bench"] + [fraction_text(voltage) for voltage in standing])
    return "\n".join([first, circuit.text] + [deed_line(stage[0]) for stage in bench.past[1:]])


def read_journal(text):
    """The bench of the text; raises BadJournal with the number of the first line that cannot stand."""
    if not isinstance(text, str):
        raise BadJournal(0)
    lines = text.split("\n")
    standing = _read_first(lines[0])
    end = _end_of_circuit(lines)
    circuit = _read_circuit(lines[1:end])
    if len(standing) != len(circuit):
        raise BadJournal(1)
    bench = Bench(circuit.text, standing)
    for number, line in enumerate(lines[end:], start=end + 1):
        _do_line(bench, line, number)
    return bench


def _read_first(line):
    """The standing that a journal's first line tells."""
    words = line.split(" ")
    standing = read_row(words[1:])
    if words[0] != "bench" or standing is None:
        raise BadJournal(1)
    return standing


def _end_of_circuit(lines):
    """How many lines stand ahead of the first deed's; a journal's first line is none."""
    for number, line in enumerate(lines):
        if line.split(" ")[0] in DEED_WORDS:
            return number
    return len(lines)


def _read_circuit(lines):
    """The circuit of these lines, which stand behind a journal's first one."""
    try:
        return Circuit("\n".join(lines))
    except BadCircuit as refused:
        raise BadJournal(refused.value + 1) from None


def _do_line(bench, line, number):
    """Does the deed that the line of this number tells."""
    deed = read_deed(line)
    if deed is None:
        raise BadJournal(number)
    try:
        do_deed(bench, deed)
    except CircuitError:
        raise BadJournal(number) from None
