"""Statements as texts."""

from unseentables.expressionreading import refuse_many_parts
from unseentables.lexing import pieces
from unseentables.questionreading import refuse_no_plan
from unseentables.questiontexts import expression_text, question_text
from unseentables.readings import Reading
from unseentables.statementreading import statement_of
from unseentables.tabletexts import columns_text, row_text


def statement_text(catalog, statement):
    """A text in one line that is read to statement."""
    word = statement[0]
    if word == "ask":
        return "ask " + question_text(catalog, statement[1])
    if word == "make":
        return f"make {statement[1]} ({columns_text(statement[2])}) room {statement[3]}"
    if word == "put":
        return f"put into {statement[1]} values ({row_text(statement[2])})"
    if word == "strike":
        return f"strike from {statement[1]} where {expression_text(statement[2])}"
    if word == "change":
        items = ", ".join([name + " = " + expression_text(expression) for name, expression in statement[2]])
        return f"change {statement[1]} to {items} where {expression_text(statement[3])}"
    return " ".join(statement)


def read_statement(catalog, value):
    """The statement that value tells; BadQuestion or TooMany if it tells none."""
    reading = Reading(pieces(value))
    statement = statement_of(reading)
    reading.end()
    for expression in _expressions_of(statement):
        refuse_many_parts(expression)
    if statement[0] == "ask":
        refuse_no_plan(catalog, statement[1])
    return statement


def _expressions_of(statement):
    """The expressions of a strike or a change."""
    if statement[0] == "strike":
        return (statement[2],)
    if statement[0] == "change":
        return tuple([expression for _, expression in statement[2]]) + (statement[3],)
    return ()
