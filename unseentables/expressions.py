"""Expressions: what a row's values come to."""

from unseentables.bounds import MAX_PARTS
from unseentables.forms import word_of
from unseentables.tables import kind_at, place_at
from unseentables.trees import has_more
from unseentables.words import is_number, is_text

# How many items the tuple of each word has.
ITEMS = {
    "column": 2, "number": 2, "text": 2, "add": 3, "sub": 3, "mul": 3, "less": 3, "same": 3, "not": 2, "and": 3,
    "or": 3, "if": 4,
}
LEAVES = ("column", "number", "text")
RECKONED = ("add", "sub", "mul")
COMPARED = ("less", "same")


def expression_error(columns, value):
    """None if value is an expression of columns; otherwise what is wrong first, and its way."""
    if has_many_parts(value):
        return ("many", ())
    return _judged(columns, value, ())[0]


def kind_of(columns, expression):
    """The kind of expression: number, text or truth."""
    kinds = [kind_of(columns, part) for part in inner_parts(expression)]
    return _own_kind(columns, expression, kinds)


def worth(columns, row, expression):
    """What expression comes to by row."""
    word = expression[0]
    if word == "column":
        return row[place_at(columns, expression[1])]
    if word in LEAVES:
        return expression[1]
    if word == "not":
        return not worth(columns, row, expression[1])
    if word == "if":
        chosen = 2 if worth(columns, row, expression[1]) else 3
        return worth(columns, row, expression[chosen])
    one = worth(columns, row, expression[1])
    other = worth(columns, row, expression[2])
    return _reckoned(word, one, other)


def names_in(expression):
    """The unlike names of all columns in expression, ascending."""
    if expression[0] == "column":
        return (expression[1],)
    found = []
    for part in inner_parts(expression):
        found.extend(names_in(part))
    return tuple(sorted(set(found)))


def put_in(expression, items):
    """expression with the expression of each of items in the place of the column of its name."""
    return _with_put(expression, dict(items))


def has_many_parts(value):
    """Whether value has more parts than an expression may have."""
    return has_more(value, inner_parts, MAX_PARTS)


def inner_parts(value):
    """The parts that stand straight in value."""
    if _has_form(value) and value[0] not in LEAVES:
        return value[1:]
    return ()


def _has_form(value):
    """Whether value is a tuple of a word and as many items as are told for it."""
    word = word_of(value)
    return word in ITEMS and len(value) == ITEMS[word]


def _judged(columns, value, way):
    """A pair of what is wrong first in value, which stands at way, and of its kind; one of both is None."""
    kinds = []
    for place, part in enumerate(inner_parts(value)):
        error, kind = _judged(columns, part, way + (place + 1,))
        if error is not None:
            return error, None
        kinds.append(kind)
    fault = _own_fault(columns, value)
    if fault is not None:
        return (fault, way), None
    kind = _own_kind(columns, value, kinds)
    if kind is None:
        return ("kind", way), None
    return None, kind


def _own_fault(columns, value):
    """What is wrong with value itself, whatever the kinds of its parts are."""
    if not _has_form(value):
        return "form"
    if value[0] == "number" and not is_number(value[1]):
        return "form"
    if value[0] == "text" and not is_text(value[1]):
        return "form"
    if value[0] == "column" and value[1] not in [column[0] for column in columns]:
        return "name"
    return None


def _own_kind(columns, value, kinds):
    """The kind that value has with parts of these kinds; None if they do not fit."""
    word = value[0]
    if word == "column":
        return kind_at(columns, value[1])
    if word in LEAVES:
        return word
    if word in RECKONED:
        return "number" if kinds == ["number", "number"] else None
    if word in COMPARED:
        return "truth" if kinds[0] == kinds[1] and kinds[0] != "truth" else None
    if word == "if":
        return kinds[1] if kinds[0] == "truth" and kinds[1] == kinds[2] else None
    return "truth" if kinds == ["truth"] * len(kinds) else None


def _reckoned(word, one, other):
    """What the word makes of two worths."""
    if word == "add":
        return one + other
    if word == "sub":
        return one - other
    if word == "mul":
        return one * other
    if word == "less":
        return one < other
    if word == "same":
        return one == other
    if word == "and":
        return one and other
    return one or other


def _with_put(expression, given):
    if expression[0] == "column":
        return given.get(expression[1], expression)
    if expression[0] in LEAVES:
        return expression
    return (expression[0],) + tuple([_with_put(part, given) for part in expression[1:]])
