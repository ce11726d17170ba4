"""Statements read from their pieces: one function for each word."""

from unseentables.expressionreading import expression_of
from unseentables.questionreading import question_of
from unseentables.readings import name_of, number_of

WORDS = ("make", "drop", "put", "strike", "change", "ask", "mark", "back")


def statement_of(reading):
    """The statement that begins with the next piece."""
    if not reading.is_next(*WORDS):
        reading.refuse()
    word = reading.take()
    read = READERS[word]
    return (word,) + read(reading)


def _make(reading):
    name = name_of(reading)
    reading.expect("(")
    columns = reading.listed(_column)
    reading.expect(")", "room")
    return name, columns, number_of(reading)


def _column(reading):
    name = name_of(reading)
    if not reading.is_next("number", "text"):
        reading.refuse()
    return name, reading.take()


def _drop(reading):
    return (name_of(reading),)


def _put(reading):
    reading.expect("into")
    name = name_of(reading)
    reading.expect("values", "(")
    row = reading.listed(_value)
    reading.expect(")")
    return name, row


def _value(reading):
    if reading.is_sort("text"):
        return reading.take()
    sign = -1 if reading.takes("-") else 1
    return sign * number_of(reading)


def _strike(reading):
    reading.expect("from")
    name = name_of(reading)
    reading.expect("where")
    return name, expression_of(reading)


def _change(reading):
    name = name_of(reading)
    reading.expect("to")
    items = reading.listed(_item)
    reading.expect("where")
    return name, items, expression_of(reading)


def _item(reading):
    name = name_of(reading)
    reading.expect("=")
    return name, expression_of(reading)


def _ask(reading):
    return (question_of(reading),)


def _nothing(reading):
    return ()


READERS = {
    "make": _make, "drop": _drop, "put": _put, "strike": _strike, "change": _change, "ask": _ask, "mark": _nothing,
    "back": _nothing,
}
