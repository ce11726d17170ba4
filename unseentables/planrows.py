"""What each word of a plan makes of the rows that come of the plans beneath it."""

from unseentables.expressions import worth
from unseentables.tables import place_at


def node_rows(node, columns, below):
    """The rows that node, no table, makes of below, the rows of its plans with these columns."""
    make = MAKERS[node[0]]
    return tuple(make(node, columns, below))


def _where(node, columns, below):
    return [row for row in below[0] if worth(columns[0], row, node[1])]


def _give(node, columns, below):
    return [tuple([worth(columns[0], row, item[1]) for item in node[1]]) for row in below[0]]


def _order(node, columns, below):
    rows = below[0]
    # Sorting keeps alike rows in their order, so the first key is the last one to sort by.
    for name, way in reversed(node[1]):
        rows = _sorted_by(rows, place_at(columns[0], name), way)
    return rows


def _first(node, columns, below):
    return below[0][:node[1]]


def _keep(node, columns, below):
    return below[0]


def _distinct(node, columns, below):
    return sorted(set(below[0]))


def _group(node, columns, below):
    places = [place_at(columns[0], name) for name in node[1]]
    found = []
    for values, rows in _by_values(below[0], places):
        found.append(values + tuple([_told_of(columns[0], item, rows) for item in node[2]]))
    return found


def _numbered(node, columns, below):
    return [row + (number,) for number, row in enumerate(below[0])]


def _running(node, columns, below):
    place = place_at(columns[0], node[2])
    found = []
    total = 0
    for row in below[0]:
        total += row[place]
        found.append(row + (total,))
    return found


def _append(node, columns, below):
    return below[0] + below[1]


def _less(node, columns, below):
    return sorted(set(below[0]) - set(below[1]))


def _meet(node, columns, below):
    return sorted(set(below[0]) & set(below[1]))


def _join(node, columns, below):
    lefts, rights = _tied_places(node, columns)
    kept = [place for place in range(len(columns[1])) if place not in rights]
    found = []
    for values, rows in _by_values(below[0], lefts):
        met = [_values_at(other, kept) for other in below[1] if _values_at(other, rights) == values]
        for row in rows:
            found.extend([row + behind for behind in met])
    return found


def _with(node, columns, below):
    return _met(node, columns, below, True)


def _without(node, columns, below):
    return _met(node, columns, below, False)


def _pairs(node, columns, below):
    return [row + other for row in below[0] for other in below[1]]


def _sorted_by(rows, place, way):
    if way == "down":
        return sorted(rows, key=lambda row: row[place], reverse=True)
    return sorted(rows, key=lambda row: row[place])


def _values_at(row, places):
    return tuple([row[place] for place in places])


def _by_values(rows, places):
    """For each unlike tuple of values at places, ascending, the pair of it and of the rows that have it."""
    groups = {}
    for row in rows:
        groups.setdefault(_values_at(row, places), []).append(row)
    return [(values, groups[values]) for values in sorted(groups)]


def _told_of(columns, item, rows):
    """What a group's item tells of the rows of one group."""
    word, name = item[1:]
    if word == "count":
        return len(rows)
    place = place_at(columns, name)
    values = [row[place] for row in rows]
    if word == "sum":
        return sum(values)
    if word == "least":
        return min(values)
    return max(values)


def _tied_places(node, columns):
    """The places of node's left names, and those of its right names."""
    lefts = [place_at(columns[0], tie[0]) for tie in node[1]]
    rights = [place_at(columns[1], tie[1]) for tie in node[1]]
    return lefts, rights


def _met(node, columns, below, wanted):
    """The rows of the first plan that meet some row of the second one, or, if wanted is False, that meet none."""
    lefts, rights = _tied_places(node, columns)
    there = [_values_at(row, rights) for row in below[1]]
    return [row for row in below[0] if (_values_at(row, lefts) in there) == wanted]


MAKERS = {
    "where": _where, "give": _give, "order": _order, "first": _first, "keep": _keep, "distinct": _distinct,
    "group": _group, "numbered": _numbered, "running": _running, "append": _append, "less": _less, "meet": _meet,
    "join": _join, "with": _with, "without": _without, "pairs": _pairs,
}
