"""What somebody sees who watches the cells: shapes of statements, and the touches that they tell."""

from unseentables.deeds import deed
from unseentables.expressions import inner_parts
from unseentables.forms import is_integer
from unseentables.grounds import bare_ground
from unseentables.plannodes import plans_in
from unseentables.programs import touches

NOTHING = {"number": ("number", 0), "text": ("text", "")}


def shape(statement):
    """statement with 0 and "" in the place of its numbers and texts."""
    word = statement[0]
    if word == "put":
        return word, statement[1], tuple(["" if isinstance(value, str) else 0 for value in statement[2]])
    if word == "strike":
        return word, statement[1], _bare(statement[2])
    if word == "change":
        return word, statement[1], _bare_items(statement[2]), _bare(statement[3])
    if word == "ask":
        return word, _bare_plan(statement[1])
    return statement


def told_touches(shapes):
    """The touches of each new store that has done a row of statements with these shapes."""
    ground, found = bare_ground(), []
    for statement in shapes:
        program, _, ground = deed(ground, statement)
        found.append(touches(program))
    return tuple(found)


def record_holds(shapes, value):
    """Whether value is what told_touches tells of shapes."""
    # To Python True is 1, so what is equal may still have a bool in the place of a cell.
    return told_touches(shapes) == value and all([_are_cells(pairs) for pairs in value])


def apart(one, other):
    """The least place at which the rows of shapes of one and other are unlike; None if they are the same."""
    for place, (left, right) in enumerate(zip(one, other)):
        if shape(left) != shape(right):
            return place
    return None if len(one) == len(other) else min(len(one), len(other))


def _bare(expression):
    """expression with 0 and "" in the place of its numbers and texts."""
    if expression[0] == "column":
        return expression
    parts = tuple([_bare(part) for part in inner_parts(expression)])
    return NOTHING.get(expression[0], expression[:1] + parts)


def _bare_items(items):
    return tuple([(name, _bare(expression)) for name, expression in items])


def _bare_plan(plan):
    below = tuple([_bare_plan(part) for part in plans_in(plan)])
    if plan[0] == "where":
        return (plan[0], _bare(plan[1])) + below
    if plan[0] == "give":
        return (plan[0], _bare_items(plan[1])) + below
    return plan[:len(plan) - len(below)] + below


def _are_cells(pairs):
    return all([is_integer(cell) for pair in pairs for cell in pair])
