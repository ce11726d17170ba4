"""Catalogs and plans: what is wrong with a value that is none, and what comes of one that is."""

from unseentables.bounds import MAX_NODES, MAX_ROOM, MAX_STEP, MAX_TABLES
from unseentables.expressions import expression_error, kind_of
from unseentables.forms import is_between, is_tuple
from unseentables.planforms import is_formed
from unseentables.planframes import entry_of, node_columns, node_room
from unseentables.plannodes import LIKE, TYING, many_of, plans_in
from unseentables.tables import columns_error, kind_at, place_of_twice
from unseentables.trees import has_more
from unseentables.words import is_name


def catalog_error(value):
    """None if value is a catalog; otherwise what is wrong first."""
    if not is_tuple(value, 0, MAX_TABLES):
        return "form"
    for place, item in enumerate(value):
        if not _is_entry(item):
            return ("table", place)
    place = place_of_twice(value)
    return None if place is None else ("twice", place)


def plan_error(catalog, value):
    """None if value is a plan of catalog; otherwise what is wrong first, and the way of its node."""
    if has_more(value, plans_in, MAX_NODES):
        return ("nodes", ())
    return _judged(catalog, value, ())[0]


def columns_of(catalog, plan):
    """The columns of what comes of plan."""
    below = [columns_of(catalog, part) for part in plans_in(plan)]
    return node_columns(catalog, plan, below)


def room_of(catalog, plan):
    """How many rows can come of plan at the most."""
    below = [room_of(catalog, part) for part in plans_in(plan)]
    return node_room(catalog, plan, below)


def ways_of(plan):
    """The ways of all nodes of plan, those beneath ahead."""
    found = []
    for place, part in enumerate(plans_in(plan)):
        found.extend([(place,) + way for way in ways_of(part)])
    return tuple(found + [()])


def _is_entry(value):
    """Whether value is a triple of a name, columns and a room."""
    if not is_tuple(value, 3, 3) or not is_name(value[0]):
        return False
    return columns_error(value[1]) is None and is_between(value[2], 1, MAX_ROOM)


def _judged(catalog, value, way):
    """What is wrong first in value, which stands at way, or None; then its columns and its room, if it is right."""
    columns, rooms = [], []
    for place, part in enumerate(plans_in(value)):
        error, its_columns, its_room = _judged(catalog, part, way + (place,))
        if error is not None:
            return error, None, None
        columns.append(its_columns)
        rooms.append(its_room)
    fault = _own_fault(catalog, value, columns, rooms)
    if fault is not None:
        return (fault, way), None, None
    return None, node_columns(catalog, value, columns), node_room(catalog, value, rooms)


def _own_fault(catalog, node, columns, rooms):
    """What is wrong with node itself; columns and rooms are those of its plans."""
    if not is_formed(node):
        return "form"
    if node[0] == "table" and entry_of(catalog, node[1]) is None:
        return "table"
    if not _names_fit(node, columns):
        return "names"
    expressions = _expressions_of(node)
    if any([expression_error(columns[0], expression) is not None for expression in expressions]):
        return "expression"
    if not _kinds_fit(node, columns, [kind_of(columns[0], expression) for expression in expressions]):
        return "kinds"
    if columns_error(node_columns(catalog, node, columns)) is not None:
        return "columns"
    if node[0] in ("first", "keep", "join") and not is_between(many_of(node), 1, MAX_STEP):
        return "many"
    if node_room(catalog, node, rooms) > MAX_STEP:
        return "room"
    return None


def _names_fit(node, columns):
    """Whether all names that have to be columns of node's plans are, none twice that has to be unlike."""
    word = node[0]
    if word == "order":
        return _are_unlike_names([key[0] for key in node[1]], columns[0])
    if word == "group":
        asked = [item[2] for item in node[2] if item[1] != "count"]
        return _are_unlike_names(node[1], columns[0]) and _are_names(asked, columns[0])
    if word == "running":
        return _are_names([node[2]], columns[0])
    if word in TYING:
        lefts = [tie[0] for tie in node[1]]
        rights = [tie[1] for tie in node[1]]
        return _are_unlike_names(lefts, columns[0]) and _are_unlike_names(rights, columns[1])
    return True


def _are_names(names, columns):
    told = [column[0] for column in columns]
    return all([name in told for name in names])


def _are_unlike_names(names, columns):
    return _are_names(names, columns) and len(set(names)) == len(names)


def _expressions_of(node):
    """The expressions that stand straight in node."""
    if node[0] == "where":
        return (node[1],)
    if node[0] == "give":
        return tuple([item[1] for item in node[1]])
    return ()


def _kinds_fit(node, columns, kinds):
    """Whether the kinds of node's expressions, and of the columns it names, are as told."""
    word = node[0]
    if word == "where":
        return kinds == ["truth"]
    if word == "give":
        return "truth" not in kinds
    if word == "group":
        summed = [item[2] for item in node[2] if item[1] == "sum"]
        return all([kind_at(columns[0], name) == "number" for name in summed])
    if word == "running":
        return kind_at(columns[0], node[2]) == "number"
    if word in LIKE:
        return [column[1] for column in columns[0]] == [column[1] for column in columns[1]]
    if word in TYING:
        return all([kind_at(columns[0], left) == kind_at(columns[1], right) for left, right in node[1]])
    return True
