"""Expressions read from their pieces: one function for each of the lines that tell them."""

from unseentables.bounds import MAX_PARTS
from unseentables.errors import TooMany
from unseentables.expressions import has_many_parts
from unseentables.readings import number_of

LINKS = {"+": "add", "-": "sub"}
MARKS = ("=", "<", ">", "<=", ">=", "<>")


def expression_of(reading):
    """The expression that begins with the next piece, as long as can be."""
    found = _both(reading)
    while reading.takes("or"):
        found = ("or", found, _both(reading))
    return found


def refuse_many_parts(expression):
    """TooMany if expression has more parts than one may have."""
    if has_many_parts(expression):
        raise TooMany(MAX_PARTS)


def _both(reading):
    found = _part(reading)
    while reading.takes("and"):
        found = ("and", found, _part(reading))
    return found


def _part(reading):
    if reading.is_next("not"):
        reading.enter()
        found = ("not", _part(reading))
        reading.leave()
        return found
    side = _side(reading)
    if not reading.is_next(*MARKS):
        return side
    mark = reading.take()
    return _marked(mark, side, _side(reading))


def _marked(mark, one, other):
    """The expression of two sides with a mark between them."""
    if mark in ("=", "<>"):
        found = ("same", one, other)
    elif mark in ("<", ">="):
        found = ("less", one, other)
    else:
        found = ("less", other, one)
    return ("not", found) if mark in ("<=", ">=", "<>") else found


def _side(reading):
    found = _term(reading)
    while reading.is_next("+", "-"):
        word = LINKS[reading.take()]
        found = (word, found, _term(reading))
    return found


def _term(reading):
    found = _one(reading)
    while reading.takes("*"):
        found = ("mul", found, _one(reading))
    return found


def _one(reading):
    if reading.takes("-"):
        return ("number", -number_of(reading))
    if reading.is_next("("):
        reading.enter()
        found = expression_of(reading)
        reading.expect(")")
        reading.leave()
        return found
    if reading.is_next("if"):
        return _choice(reading)
    if reading.is_sort("name"):
        return ("column", reading.take())
    if reading.is_sort("text"):
        return ("text", reading.take())
    return ("number", number_of(reading))


def _choice(reading):
    reading.enter()
    condition = expression_of(reading)
    reading.expect("then")
    chosen = expression_of(reading)
    reading.expect("else")
    other = expression_of(reading)
    reading.leave()
    return ("if", condition, chosen, other)
