"""Expressions and plans as texts that are read to them again."""

from unseentables.expressions import LEAVES
from unseentables.plannodes import LIKE, TYING, plans_in

# How close each word binds that has parts; what binds less close than its place asks for stands in brackets.
CLOSENESS = {"if": 0, "or": 1, "and": 2, "not": 3, "less": 3, "same": 3, "add": 4, "sub": 4, "mul": 5}
# For each word with two sides its sign, and how close the one and the other have to bind.
SIGNS = {
    "or": (" or ", 1, 2), "and": (" and ", 2, 3), "less": (" < ", 4, 4), "same": (" = ", 4, 4),
    "add": (" + ", 4, 5), "sub": (" - ", 4, 5), "mul": (" * ", 5, 6),
}


def expression_text(expression):
    """A text in one line that is read to expression."""
    word = expression[0]
    if word == "text":
        return "'" + expression[1] + "'"
    if word in LEAVES:
        return str(expression[1])
    if word == "not":
        return "not " + _bound_text(expression[1], CLOSENESS[word])
    if word == "if":
        condition, chosen, other = [expression_text(part) for part in expression[1:]]
        return f"if {condition} then {chosen} else {other}"
    sign, left, right = SIGNS[word]
    return _bound_text(expression[1], left) + sign + _bound_text(expression[2], right)


def question_text(catalog, plan):
    """A text in one line that is read to plan: a select for each node, or two questions joined."""
    below = [question_text(catalog, part) for part in plans_in(plan)]
    if plan[0] in LIKE:
        return f"({below[0]}) {plan[0]} ({below[1]})"
    atoms = []
    for part, text in zip(plans_in(plan), below):
        atoms.append(part[1] if part[0] == "table" else f"({text})")
    return "select " + _items_text(plan) + " from " + _source_text(plan, atoms) + _end_text(plan)


def _bound_text(expression, closeness):
    """The text of expression, in brackets if it binds less close."""
    text = expression_text(expression)
    if CLOSENESS.get(expression[0], closeness) < closeness:
        return f"({text})"
    return text


def _items_text(plan):
    if plan[0] == "distinct":
        return "distinct *"
    if plan[0] == "give":
        return ", ".join([expression_text(expression) + " as " + name for name, expression in plan[1]])
    if plan[0] == "group":
        return ", ".join(list(plan[1]) + [_part_text(part) for part in plan[2]])
    return "*"


def _part_text(part):
    new, word, name = part
    return word + "(" + ("*" if name is None else name) + ") as " + new


def _source_text(plan, atoms):
    word = plan[0]
    if word == "table":
        return plan[1]
    if word == "pairs":
        return atoms[0] + " pairs " + atoms[1]
    if word not in TYING:
        return atoms[0]
    ties = " and ".join([left + " = " + right for left, right in plan[1]])
    text = f"{atoms[0]} {word} {atoms[1]} on {ties}"
    return f"{text} within {plan[2]}" if word == "join" else text


def _end_text(plan):
    """What stands behind the source."""
    word = plan[0]
    if word == "where":
        return " where " + expression_text(plan[1])
    if word == "group" and len(plan[1]) > 0:
        return " group by " + ", ".join(plan[1])
    if word == "order":
        return " order by " + ", ".join([name + " " + way for name, way in plan[1]])
    if word == "running":
        return f" running {plan[2]} as {plan[1]}"
    if word in ("numbered", "first", "keep"):
        return f" {word} {plan[1]}"
    return ""
