"""The areas of less and meet, with and without: which rows of the first plan, the lefts, rights meet or do not."""

from unseentables.makings import GONE, HERE, NOUGHT, ONE, TWO, UNIT, Lets, field_atoms
from unseentables.pieces import count_area, thin_area
from unseentables.routing import draw_area
from unseentables.sorting import ascending, sort_here
from unseentables.tables import place_at


def tied_atoms(node, columns):
    """The atoms of node's left names in a record of its first plan, and of its right names in one of the second."""
    lefts = [("one", place_at(columns[0], left) + 1) for left, _ in node[1]]
    rights = [("one", place_at(columns[1], right) + 1) for _, right in node[1]]
    return tuple(lefts), tuple(rights)


def unlike_lefts(making, columns, below, wanted):
    """The area of the unlike lefts that are rights, too, or, if wanted is False, that are none."""
    side = len(columns[0]) + 1
    row = field_atoms("one", 0, side)
    making.form(below[0], row + (UNIT,))
    making.form(below[1], row + (NOUGHT,))
    cells = below[0] + below[1]
    places = list(range(1, side))
    sort_here(making, cells, ascending(places + [side]))
    _choose_lefts(making, cells, places, side, wanted)
    thin_area(making, cells, side, places)
    draw_area(making, cells, side)
    making.cut(cells, side)
    return cells[:len(below[0])]


def tied_lefts(making, node, columns, below, wanted):
    """The area of the lefts that some right meets, or, if wanted is False, that none meets."""
    width = len(columns[0]) + 1
    side = width + len(node[1])
    lefts, rights = tied_atoms(node, columns)
    # Behind a left's own fields, or as many that nobody reads, stand the keys, the side, and the left's number.
    count_area(making, below[0], width)
    making.form(below[0], field_atoms("one", 0, width) + lefts + (UNIT, ("one", width)))
    making.form(below[1], (HERE,) + (NOUGHT,) * (width - 1) + rights + (NOUGHT, NOUGHT))
    cells = below[0] + below[1]
    places = list(range(width, side))
    sort_here(making, cells, ascending(places + [side]))
    _choose_lefts(making, cells, places, side, wanted)
    sort_here(making, cells, ascending([side + 1]))
    making.cut(cells, width)
    return cells[:len(below[0])]


def _choose_lefts(making, cells, places, side, wanted):
    """Of all records just the lefts stay here that some right meets, or, if wanted is False, that none meets.

    Side is 1 for lefts, 0 for rights; these stand ahead of the lefts that have the same words at places.
    """
    lets = Lets()
    met = lets.alike(places)
    asked = met if wanted else lets.let("if", met, NOUGHT, UNIT)
    left = lets.let("if", HERE, ("one", side), NOUGHT)
    right = lets.let("if", left, NOUGHT, HERE)
    stays = lets.let("if", left, asked, NOUGHT)
    making.walk(cells, lets.rule(("if", stays, ONE, GONE), ("if", right, ONE, TWO)))
