"""The columns and the room of a plan's node, from those of the plans straight beneath it."""

from unseentables.expressions import kind_of
from unseentables.plannodes import many_of
from unseentables.tables import kind_at


def entry_of(catalog, name):
    """The triple of catalog that begins with name; None if there is none."""
    for entry in catalog:
        if entry[0] == name:
            return entry
    return None


def node_columns(catalog, node, below):
    """The columns of node; below are those of its plans."""
    word = node[0]
    if word == "table":
        return entry_of(catalog, node[1])[1]
    if word == "give":
        return tuple([(name, kind_of(below[0], expression)) for name, expression in node[1]])
    if word == "group":
        return _group_columns(node, below[0])
    if word in ("numbered", "running"):
        return below[0] + ((node[1], "number"),)
    if word == "join":
        rights = [tie[1] for tie in node[1]]
        return below[0] + tuple([column for column in below[1] if column[0] not in rights])
    if word == "pairs":
        return below[0] + below[1]
    return below[0]


def node_room(catalog, node, below):
    """The room of node; below are those of its plans."""
    word = node[0]
    if word == "table":
        return entry_of(catalog, node[1])[2]
    if word == "append":
        return below[0] + below[1]
    if word == "pairs":
        return below[0] * below[1]
    if word == "join":
        return min(many_of(node), below[0] * below[1])
    if word in ("first", "keep"):
        return min(many_of(node), below[0])
    return below[0]


def _group_columns(node, columns):
    found = [(name, kind_at(columns, name)) for name in node[1]]
    for new, word, name in node[2]:
        kind = "number" if word in ("count", "sum") else kind_at(columns, name)
        found.append((new, kind))
    return tuple(found)
