"""For each word of a plan the piece of program that makes its area of the areas of the plans beneath it.

An area is a tuple of cells. Those of its records that are here, whose field 0 is 1, are the rows behind it.
"""

from unseentables.joinareas import join_area
from unseentables.makings import GONE, HERE, KEPT, NOUGHT, ONE, TWO, UNIT, Lets, field_atoms
from unseentables.pieces import count_area, thin_area, total_area
from unseentables.plannodes import plans_in
from unseentables.plans import columns_of
from unseentables.reckoning import reckoned
from unseentables.routing import draw_area
from unseentables.sorting import ascending, sort_here
from unseentables.tables import place_at
from unseentables.tiedareas import tied_lefts, unlike_lefts


def plan_area(making, plan):
    """The cells that hold what comes of plan, behind the steps that are added to making."""
    below, columns = [], []
    for part in plans_in(plan):
        below.append(plan_area(making, part))
        columns.append(columns_of(making.catalog, part))
    make = AREAS[plan[0]]
    return make(making, plan, columns, below)


def _table(making, node, columns, below):
    # The tables themselves stay as they are, as several nodes may read one.
    held = making.table_cells(node[1])
    cells = making.fresh(len(held))
    for one, other in zip(held, cells):
        making.step(one, other, ((), ONE, ONE))
    return cells


def _where(making, node, columns, below):
    lets = Lets()
    truth = reckoned(lets, columns[0], node[1])
    making.each(below[0], lets.rule(("if", truth, ONE, GONE), TWO))
    return below[0]


def _give(making, node, columns, below):
    width = _width(columns)
    # A rule for each item, as all of them together may have more lets than a rule.
    for place, item in enumerate(node[1]):
        lets = Lets()
        value = reckoned(lets, columns[0], item[1])
        atoms = field_atoms("one", 0, width + place) + (value,)
        making.each(below[0], lets.rule(("new", atoms), TWO))
    making.form_rows(below[0], field_atoms("one", width, width + len(node[1])))
    return below[0]


def _order(making, node, columns, below):
    width = _width(columns)
    keys = tuple([(place_at(columns[0], name) + 1, way) for name, way in node[1]])
    count_area(making, below[0], width)
    sort_here(making, below[0], keys + ascending([width]))
    making.cut(below[0], width)
    return below[0]


def _first(making, node, columns, below):
    width = _width(columns)
    draw_area(making, below[0], width)
    making.cut(below[0], width)
    return below[0][:node[1]]


def _keep(making, node, columns, below):
    kept = _first(making, node, columns, below)
    if len(kept) < len(below[0]):
        # All that are here stand together: there are too many if there is one behind those that are kept.
        making.say_over(below[0][len(kept)], Lets(), KEPT)
    return kept


def _distinct(making, node, columns, below):
    width = _width(columns)
    places = list(range(1, width))
    sort_here(making, below[0], ascending(places))
    thin_area(making, below[0], width, places)
    return below[0]


def _group(making, node, columns, below):
    width, items = _width(columns), node[2]
    places = [place_at(columns[0], name) + 1 for name in node[1]]
    sort_here(making, below[0], ascending(places))
    lets = Lets()
    again = lets.alike(places)
    told = []
    for place, item in enumerate(items):
        own = UNIT if item[1] == "count" else ("one", place_at(columns[0], item[2]) + 1)
        told.append(_so_far(lets, again, item[1], own, ("two", width + place)))
    making.walk(below[0], lets.carried(field_atoms("one", 0, width) + tuple(told)))
    # The last record of each run has all of the run told.
    thin_area(making, below[0][::-1], width + len(items), places)
    values = tuple([("one", place) for place in places])
    making.form_rows(below[0], values + field_atoms("one", width, width + len(items)))
    return below[0]


def _numbered(making, node, columns, below):
    count_area(making, below[0], _width(columns))
    return below[0]


def _running(making, node, columns, below):
    total_area(making, below[0], _width(columns), place_at(columns[0], node[2]) + 1)
    return below[0]


def _append(making, node, columns, below):
    return below[0] + below[1]


def _less(making, node, columns, below):
    return unlike_lefts(making, columns, below, False)


def _meet(making, node, columns, below):
    return unlike_lefts(making, columns, below, True)


def _join(making, node, columns, below):
    return join_area(making, node, columns, below)


def _with(making, node, columns, below):
    return tied_lefts(making, node, columns, below, True)


def _without(making, node, columns, below):
    return tied_lefts(making, node, columns, below, False)


def _pairs(making, node, columns, below):
    lets = Lets()
    both = lets.let("if", HERE, KEPT, NOUGHT)
    atoms = (UNIT,) + field_atoms("two", 1, len(columns[0]) + 1) + field_atoms("one", 1, len(columns[1]) + 1)
    rule = lets.rule(ONE, ("if", both, ("new", atoms), GONE))
    cells = making.fresh(len(below[0]) * len(below[1]))
    places = [(left, right) for left in below[0] for right in below[1]]
    for cell, (left, right) in zip(cells, places):
        making.step(left, cell, ((), ONE, ONE))
        making.step(right, cell, rule)
    return cells


def _width(columns):
    """How many fields the records of the first plan have."""
    return len(columns[0]) + 1


def _so_far(lets, again, word, own, kept):
    """What a group's word tells of own and, if the record stands in the same run again, of what was told so far."""
    if word in ("count", "sum"):
        ahead = lets.let("if", again, kept, NOUGHT)
        return lets.let("add", ahead, own)
    less = lets.let("less", own, kept) if word == "least" else lets.let("less", kept, own)
    chosen = lets.let("if", less, own, kept)
    return lets.let("if", again, chosen, own)


AREAS = {
    "table": _table, "where": _where, "give": _give, "order": _order, "first": _first, "keep": _keep,
    "distinct": _distinct, "group": _group, "numbered": _numbered, "running": _running, "append": _append,
    "less": _less, "meet": _meet, "join": _join, "with": _with, "without": _without, "pairs": _pairs,
}
