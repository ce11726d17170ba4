"""Expressions and questions read from texts."""

from unseentables.expressionreading import expression_of, refuse_many_parts
from unseentables.lexing import pieces
from unseentables.questionreading import question_of, refuse_no_plan
from unseentables.readings import Reading


def read_expression(value):
    """The expression that value tells; BadQuestion or TooMany if it tells none."""
    reading = Reading(pieces(value))
    expression = expression_of(reading)
    reading.end()
    refuse_many_parts(expression)
    return expression


def read_question(catalog, value):
    """The plan of catalog that value asks for; BadQuestion if it asks for none."""
    reading = Reading(pieces(value))
    plan = question_of(reading)
    reading.end()
    refuse_no_plan(catalog, plan)
    return plan
