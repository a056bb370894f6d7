"""Deeds of a bench, and the lines that tell them.

A deed is a tuple: the word of its line, and what the method of the bench takes.
"""

from chargeturns.ratios import fraction_text, read_fraction

DEED_WORDS = ("join", "turn", "put", "size", "volt")


def deed_line(deed):
    """The line that tells the deed."""
    if deed[0] == "join":
        return f"join {deed[1]}"
    if deed[0] == "turn":
        return " ".join(("turn",) + deed[1])
    return f"{deed[0]} {deed[1]} {fraction_text(deed[2])}"


def read_deed(line):
    """The deed that a line tells; None if the line has no such form."""
    words = line.split(" ")
    if words[0] not in DEED_WORDS or "" in words:
        return None
    if words[0] == "turn":
        return ("turn", tuple(words[1:]))
    if words[0] == "join":
        return ("join", words[1]) if len(words) == 2 else None
    if len(words) != 3:
        return None
    number = read_fraction(words[2])
    return None if number is None else (words[0], words[1], number)


def do_deed(bench, deed):
    """Does the deed on the bench; raises what the bench raises."""
    if deed[0] == "join":
        bench.join(deed[1])
    elif deed[0] == "turn":
        bench.turn(deed[1])
    elif deed[0] == "put":
        bench.put(deed[1], deed[2])
    elif deed[0] == "size":
        bench.size(deed[1], deed[2])
    else:
        bench.source(deed[1], deed[2])
