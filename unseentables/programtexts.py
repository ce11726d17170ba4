"""Programs as texts."""

from unseentables.bounds import MAX_FIGURES
from unseentables.errors import BadText
from unseentables.forms import integer_of
from unseentables.programs import program_error


def program_text(program):
    """The text of program: a line of its cells, then those of its rules, then a line for each step."""
    cells, rules, steps = program
    lines = [f"cells {cells}"]
    for rule in rules:
        lines.extend(_rule_lines(rule))
    for one, other, place in steps:
        lines.append(f"step {one} {other} {place}")
    return "\n".join(lines)


def read_program(value):
    """The program of which value is the text; BadText if it is the text of none."""
    if not isinstance(value, str):
        raise BadText()
    program = _loosely_read(value.split("\n"))
    # What was read loosely is the program only if its own text is just this one.
    if program_error(program) is not None or program_text(program) != value:
        raise BadText()
    return program


def _rule_lines(rule):
    lets, first, second = rule
    lines = ["rule"]
    for let in lets:
        lines.append("let " + _let_text(let))
    return lines + ["first " + _text_of_record_rule(first), "second " + _text_of_record_rule(second)]


def _let_text(let):
    if let[0] == "digit":
        return f"digit {let[1]} " + _atom_text(let[2])
    return " ".join([let[0]] + [_atom_text(atom) for atom in let[1:]])


def _text_of_record_rule(record_rule):
    word = record_rule[0]
    if word == "if":
        atom, chosen, other = record_rule[1:]
        return " : ".join(["if " + _atom_text(atom), _text_of_record_rule(chosen), _text_of_record_rule(other)])
    if word == "new":
        return " ".join([word] + [_atom_text(atom) for atom in record_rule[1]])
    return word


def _atom_text(atom):
    word, what = atom
    if word != "put":
        return f"{word}.{what}"
    if isinstance(what, str):
        return "'" + what + "'"
    return str(what)


def _loosely_read(lines):
    """A triple that is the right program if lines are those of one."""
    cells, rules, steps = None, [], []
    for line in lines:
        word, _, rest = line.partition(" ")
        if word == "cells":
            cells = integer_of(rest, MAX_FIGURES)
        elif word == "rule":
            rules.append({"let": [], "first": [], "second": []})
        elif word == "step":
            steps.append(tuple([integer_of(part, MAX_FIGURES) for part in rest.split(" ")]))
        elif word == "let" and len(rules) > 0:
            rules[-1][word].append(_loose_let(_parts(rest)))
        elif word in ("first", "second") and len(rules) > 0:
            rules[-1][word].append(_loose_record_rule(_parts(rest)))
    read = [(tuple(found["let"]), *found["first"], *found["second"]) for found in rules]
    return cells, tuple(read), tuple(steps)


def _parts(text):
    """The parts of a line: strings without a blank, and atoms that put the texts that stand between signs '."""
    found = []
    for place, piece in enumerate(text.split("'")):
        if place & 1:
            found.append(("put", piece))
        else:
            found.extend(piece.split())
    return found


def _loose_let(parts):
    atoms = _loose_atoms(parts[1:])
    if parts[:1] == ["digit"] and len(atoms) > 0:
        return (parts[0], atoms[0][1]) + atoms[1:]
    return tuple(parts[:1]) + atoms


def _loose_record_rule(parts):
    if parts[:1] == ["if"] and parts.count(":") == 2:
        first = parts.index(":")
        second = parts.index(":", first + 1)
        chosen, other = parts[first + 1:second], parts[second + 1:]
        return (parts[0], *_loose_atoms(parts[1:first]), _loose_plain(chosen), _loose_plain(other))
    return _loose_plain(parts)


def _loose_plain(parts):
    if parts[:1] == ["new"]:
        return parts[0], _loose_atoms(parts[1:])
    return tuple(parts)


def _loose_atoms(parts):
    return tuple([_loose_atom(part) for part in parts])


def _loose_atom(part):
    """The atom that part is the text of, if it is that of one."""
    if isinstance(part, tuple):
        return part
    word, point, number = part.partition(".")
    if point == "":
        return "put", integer_of(part, MAX_FIGURES)
    return word, integer_of(number, MAX_FIGURES)
