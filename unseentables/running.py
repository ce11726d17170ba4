"""The machine: memories, and what programs leave of them."""

from unseentables.bounds import MAX_FIELDS
from unseentables.forms import is_integer, is_tuple
from unseentables.rules import after_rule
from unseentables.words import is_text


def memory_error(program, value):
    """None if value is a memory for program; otherwise what is wrong first."""
    if not is_tuple(value, program[0], program[0]):
        return "form"
    for place, record in enumerate(value):
        if not _is_record(record):
            return ("cell", place)
    return None


def run(program, memory):
    """The memory that is left when all steps of program are done."""
    cells = list(memory)
    rules = program[1]
    for one, other, place in program[2]:
        cells[one], cells[other] = after_rule(rules[place], cells[one], cells[other])
    return tuple(cells)


def _is_record(value):
    return is_tuple(value, 0, MAX_FIELDS) and all([is_integer(word) or is_text(word) for word in value])
