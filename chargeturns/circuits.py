"""Circuits: their text, and circuits made of others."""

from chargeturns.checks import GROUND, check_part, check_source, is_name, names_of
from chargeturns.errors import BadCircuit, BadSize, BadVoltage
from chargeturns.ratios import fraction_text, is_above_nought, is_fraction, read_fraction

MOST_SOURCES = 4
MOST_PARTS = 8
MOST_JOININGS = 6


class Circuit:
    """Sources, parts, and joinings of the parts, as a text tells them."""

    def __init__(self, text):
        if not isinstance(text, str):
            raise BadCircuit(0)
        sources, parts, joinings = _read_lines(text.split("\n"))
        self.text = text
        self.sources = tuple(sources)
        self.parts = tuple(parts)
        self.joinings = tuple([(name, tuple(ties)) for name, ties in joinings])

    def __len__(self):
        return len(self.parts)

    def __eq__(self, other):
        return isinstance(other, Circuit) and self.text == other.text


def with_size(circuit, part, size):
    """The circuit with this size of the part."""
    check_part(circuit, part)
    if not is_above_nought(size):
        raise BadSize(size)
    place = 1 + len(circuit.sources) + names_of(circuit.parts).index(part)
    return _with_lines(circuit, place, [f"part {part} {fraction_text(size)}"])


def with_source(circuit, source, voltage):
    """The circuit with this voltage of the source."""
    check_source(circuit, source)
    if not is_fraction(voltage):
        raise BadVoltage(voltage)
    place = 1 + names_of(circuit.sources).index(source)
    return _with_lines(circuit, place, [f"source {source} {fraction_text(voltage)}"])


def grounded(circuit):
    """The circuit with all sources at 0."""
    return _with_lines(circuit, 1, [f"source {source} 0" for source in names_of(circuit.sources)])


def _with_lines(circuit, place, new):
    """The circuit whose text has these lines from the place on, counted from 0."""
    lines = circuit.text.split("\n")
    return Circuit("\n".join(lines[:place] + new + lines[place + len(new):]))


def _read_lines(lines):
    """Sources, parts and joinings, as lists; raises BadCircuit for the first line that cannot stand."""
    sources, parts, joinings = [], [], []
    if lines[0] != "circuit":
        raise BadCircuit(1)
    for number, line in enumerate(lines[1:], start=2):
        if not _takes_line(line.split(" "), sources, parts, joinings):
            raise BadCircuit(number)
    # A joining stands behind parts only, so that none of them lacks then.
    if not joinings:
        raise BadCircuit(len(lines) + 1)
    return sources, parts, joinings


def _takes_line(words, sources, parts, joinings):
    """Puts what a line tells behind what stands already; False if the line cannot stand."""
    if words[0] == "source" and len(words) == 3:
        return _takes_source(words, sources, parts)
    if words[0] == "part" and len(words) == 3:
        return _takes_part(words, parts, joinings)
    if words[0] == "joining" and len(words) == 2:
        return _takes_joining(words, parts, joinings)
    if words[0] == "tie" and len(words) == 4:
        return _takes_tie(words, parts, joinings)
    return False


def _takes_source(words, sources, parts):
    name, voltage = words[1], read_fraction(words[2])
    # Ahead of a joining there are parts, so that this refuses sources behind it, too.
    if voltage is None or parts or not _is_another(name, sources, MOST_SOURCES):
        return False
    sources.append((name, voltage))
    return True


def _takes_part(words, parts, joinings):
    name, size = words[1], read_fraction(words[2])
    if not is_above_nought(size) or joinings or not _is_another(name, parts, MOST_PARTS):
        return False
    parts.append((name, size))
    return True


def _takes_joining(words, parts, joinings):
    name = words[1]
    if not parts or not _is_another(name, joinings, MOST_JOININGS):
        return False
    joinings.append((name, []))
    return True


def _takes_tie(words, parts, joinings):
    _, part, plus, minus = words
    if not joinings or part not in names_of(parts):
        return False
    ties = joinings[-1][1]
    if part in names_of(ties) or not _is_junction(plus) or not _is_junction(minus):
        return False
    ties.append((part, plus, minus))
    return True


def _is_another(name, told, most):
    """Whether one of this name can stand behind those that are told."""
    return is_name(name) and len(told) < most and name not in names_of(told)


def _is_junction(word):
    return word == GROUND or is_name(word)
