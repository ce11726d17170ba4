"""Expressions as lets of rules."""

from unseentables.expressions import LEAVES
from unseentables.makings import NOUGHT, UNIT
from unseentables.tables import place_at


def reckoned(lets, columns, expression):
    """The atom of what expression comes to by the first record, a row behind its field 0; a truth is 1 or 0."""
    word = expression[0]
    if word == "column":
        return ("one", place_at(columns, expression[1]) + 1)
    if word in LEAVES:
        return ("put", expression[1])
    atoms = [reckoned(lets, columns, part) for part in expression[1:]]
    if word == "not":
        return lets.let("if", atoms[0], NOUGHT, UNIT)
    if word == "and":
        return lets.let("if", atoms[0], atoms[1], NOUGHT)
    if word == "or":
        return lets.let("if", atoms[0], UNIT, atoms[1])
    return lets.let(word, *atoms)
