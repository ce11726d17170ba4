"""The plain meaning of plans: the rows that come of tables, without any program."""

from unseentables.errors import Over
from unseentables.forms import is_tuple
from unseentables.plannodes import many_of, plans_in
from unseentables.planrows import node_rows
from unseentables.plans import columns_of
from unseentables.tables import table_error


def tables_error(catalog, value):
    """None if value are fitting tables of catalog; otherwise what is wrong first."""
    if not is_tuple(value, len(catalog), len(catalog)):
        return "form"
    for place, (entry, item) in enumerate(zip(catalog, value)):
        if not _is_fitting(entry, item):
            return ("table", place)
    return None


def meaning(catalog, tables, plan):
    """The rows that come of plan; Over with the way of the first node that has more rows than it lets."""
    return _rows(catalog, tables, plan, ())


def _is_fitting(entry, value):
    """Whether value is a table with the columns and within the room of entry."""
    return table_error(value) is None and value[0] == entry[1] and len(value[1]) <= entry[2]


def _rows(catalog, tables, plan, way):
    """The rows that come of plan, which stands at way."""
    if plan[0] == "table":
        place = [entry[0] for entry in catalog].index(plan[1])
        return tables[place][1]
    below = []
    for place, part in enumerate(plans_in(plan)):
        below.append(_rows(catalog, tables, part, way + (place,)))
    columns = [columns_of(catalog, part) for part in plans_in(plan)]
    rows = node_rows(plan, columns, below)
    if plan[0] in ("keep", "join") and len(rows) > many_of(plan):
        raise Over(way)
    return rows
