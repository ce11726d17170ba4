"""Programs: rows of steps that touch cells told ahead."""

from unseentables.bounds import MAX_CELLS, MAX_RULES, MAX_STEPS
from unseentables.errors import TooMany
from unseentables.forms import is_between, is_tuple
from unseentables.rules import rule_error


def program_error(value):
    """None if value is a program; otherwise what is wrong first."""
    if not is_tuple(value, 3, 3) or not is_between(value[0], 1, MAX_CELLS):
        return "form"
    cells, rules, steps = value
    if not is_tuple(rules, 0, MAX_RULES) or not is_tuple(steps, 0, MAX_STEPS):
        return "form"
    for place, rule in enumerate(rules):
        error = rule_error(rule)
        if error is not None:
            return ("rule", place, error)
    for place, step in enumerate(steps):
        if not _is_step(step, cells, len(rules)):
            return ("step", place)
    return None


def touches(program):
    """The pairs of cells that program touches, in order."""
    return tuple([(one, other) for one, other, _ in program[2]])


def behind(one, other):
    """The program that does one and then other."""
    rules, steps = one[1] + other[1], list(one[2])
    if len(rules) > MAX_RULES:
        raise TooMany(MAX_RULES)
    if len(steps) + len(other[2]) > MAX_STEPS:
        raise TooMany(MAX_STEPS)
    for first, second, place in other[2]:
        steps.append((first, second, place + len(one[1])))
    return max(one[0], other[0]), rules, tuple(steps)


def _is_step(value, cells, rules):
    """Whether value is a step of a program with so many cells and rules."""
    if not is_tuple(value, 3, 3):
        return False
    one, other, place = value
    if not is_between(one, 0, cells - 1) or not is_between(other, 0, cells - 1) or one == other:
        return False
    return is_between(place, 0, rules - 1)
