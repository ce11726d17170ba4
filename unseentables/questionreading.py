"""Questions read from their pieces to plans: one function for each of the lines that tell them."""

from unseentables.errors import BadQuestion
from unseentables.expressionreading import expression_of
from unseentables.plans import plan_error
from unseentables.readings import name_of, number_of


def question_of(reading):
    """The plan of the question that begins with the next piece."""
    plan = _sort(reading)
    while reading.is_next("append", "less", "meet"):
        word = reading.take()
        plan = (word, plan, _sort(reading))
    return plan


def refuse_no_plan(catalog, plan):
    """BadQuestion if plan is none of catalog."""
    error = plan_error(catalog, plan)
    if error is not None:
        raise BadQuestion(("plan", error))


def _sort(reading):
    if reading.is_next("("):
        return _in_brackets(reading)
    return _select(reading)


def _in_brackets(reading):
    reading.enter()
    plan = question_of(reading)
    reading.expect(")")
    reading.leave()
    return plan


def _select(reading):
    reading.expect("select")
    is_distinct = reading.takes("distinct")
    items = () if reading.takes("*") else reading.listed(_item)
    reading.expect("from")
    plan = _source(reading)
    if reading.takes("where"):
        plan = ("where", expression_of(reading), plan)
    plan = _with_items(reading, items, plan)
    if is_distinct:
        plan = ("distinct", plan)
    return _with_end(reading, plan)


def _item(reading):
    """A name, its expression, and what a group tells by it; of a name alone, and of each other item, one is None."""
    if reading.is_next("count", "sum", "least", "greatest"):
        return _group_item(reading)
    begin = reading.place
    expression = expression_of(reading)
    if expression[0] == "column" and reading.place == begin + 1 and not reading.is_next("as"):
        return expression[1], None, None
    reading.expect("as")
    return name_of(reading), expression, None


def _group_item(reading):
    word, column = reading.take(), None
    reading.expect("(")
    if word == "count":
        reading.expect("*")
    else:
        column = name_of(reading)
    reading.expect(")", "as")
    new = name_of(reading)
    return new, None, (new, word, column)


def _source(reading):
    plan = _atom(reading)
    while reading.is_next("join", "with", "without", "pairs"):
        word = reading.take()
        other = _atom(reading)
        plan = (word,) + _bonds(reading, word) + (plan, other)
    return plan


def _atom(reading):
    if reading.is_next("("):
        return _in_brackets(reading)
    return ("table", name_of(reading))


def _bonds(reading, word):
    """What the plan of this word has between the word and its two plans."""
    if word == "pairs":
        return ()
    reading.expect("on")
    ties = [_tie(reading)]
    while reading.takes("and"):
        ties.append(_tie(reading))
    if word != "join":
        return (tuple(ties),)
    reading.expect("within")
    return tuple(ties), number_of(reading)


def _tie(reading):
    left = name_of(reading)
    reading.expect("=")
    return left, name_of(reading)


def _with_items(reading, items, plan):
    """What group, having and items make of plan."""
    parts = tuple([part for _, _, part in items if part is not None])
    names, is_grouped = (), len(parts) > 0
    if reading.takes("group"):
        reading.expect("by")
        names, is_grouped = reading.listed(name_of), True
    if not is_grouped:
        return _given(items, plan)
    plan = ("group", names, parts, plan)
    if reading.takes("having"):
        plan = ("where", expression_of(reading), plan)
    # What the group gives by itself is not given once more.
    if items == tuple([(name, None, None) for name in names] + [(part[0], None, part) for part in parts]):
        return plan
    return _given(items, plan)


def _given(items, plan):
    """What items make of plan; without any they are the sign *."""
    if len(items) == 0:
        return plan
    told = []
    for name, expression, _ in items:
        told.append((name, ("column", name) if expression is None else expression))
    return "give", tuple(told), plan


def _with_end(reading, plan):
    """What stands behind the items' part of a select makes this of plan."""
    if reading.takes("order"):
        reading.expect("by")
        plan = ("order", reading.listed(_key), plan)
    if reading.takes("numbered"):
        plan = ("numbered", name_of(reading), plan)
    if reading.takes("running"):
        column = name_of(reading)
        reading.expect("as")
        plan = ("running", name_of(reading), column, plan)
    for word in ("first", "keep"):
        if reading.takes(word):
            plan = (word, number_of(reading), plan)
    return plan


def _key(reading):
    name = name_of(reading)
    if reading.is_next("up", "down"):
        return name, reading.take()
    return name, "up"
