"""The area of a join: each left, a row of the first plan, with each right, a row of the second one, that it meets.

Lefts and rights are sorted by their keys, so that those that meet stand in one run. A run gives as many rows as its
lefts times its rights, behind its base, the rows of all runs ahead. So each left is copied as often as its run has
rights, each right as often as it has lefts, and all copies are brought to the places of their rows.
"""

from unseentables.makings import GONE, HERE, KEPT, NOUGHT, TWO, UNIT, Lets, field_atoms
from unseentables.pieces import count_area, fill_area
from unseentables.plannodes import many_of
from unseentables.routing import draw_area, spread_area
from unseentables.sorting import ascending, sort_here
from unseentables.tiedareas import tied_atoms


class Layout:
    """Which field of a record holds what, while lefts and rights lie in one area."""

    def __init__(self, node, columns):
        # The row's fields: what a left gives stands from the field 1 on, what a right gives from this one on.
        self.right_part = len(columns[0]) + 1
        self.first_key = self.right_part + len(columns[1]) - len(node[1])
        # 0 for lefts, 1 for rights.
        self.side = self.first_key + len(node[1])
        # The record's number among those of its side: of its plan at first, of its run later.
        self.own = self.side + 1
        # How many lefts and rights the run has, at first up to the record itself, and the run's base.
        self.lefts = self.side + 2
        self.rights = self.side + 3
        self.base = self.side + 4


def join_area(making, node, columns, below):
    """The cells of the rows that lefts and rights give; over is said if these are more than many."""
    layout = Layout(node, columns)
    room = min(many_of(node), len(below[0]) * len(below[1]))
    _form_sides(making, layout, node, columns, below)
    cells = below[0] + below[1]
    sort_here(making, cells, ascending(list(range(layout.first_key, layout.own + 1))))
    _count_so_far(making, layout, cells)
    _count_rights(making, layout, cells)
    _tell_bases(making, layout, cells)
    _say_over(making, layout, room)
    others = making.fresh(len(cells))
    _part_sides(making, layout, cells, others)
    lefts = _copied(making, cells, room, layout.right_part + 1, layout.right_part)
    rights = _rights_in_rows(making, layout, others, room)
    _put_together(making, layout, lefts, rights)
    return lefts


def _form_sides(making, layout, node, columns, below):
    """Gives all records the fields of layout, up to own."""
    left_keys, right_keys = tied_atoms(node, columns)
    left_end, right_end = len(columns[0]) + 1, len(columns[1]) + 1
    left_part = field_atoms("one", 1, left_end)
    right_part = tuple([atom for atom in field_atoms("one", 1, right_end) if atom not in right_keys])
    count_area(making, below[0], left_end)
    count_area(making, below[1], right_end)
    left_row = (HERE,) + left_part + (NOUGHT,) * len(right_part)
    right_row = (HERE,) + (NOUGHT,) * len(left_part) + right_part
    making.form(below[0], left_row + left_keys + (NOUGHT, ("one", left_end)))
    making.form(below[1], right_row + right_keys + (UNIT, ("one", right_end)))


def _count_so_far(making, layout, cells):
    """Tells each record its number in its run, and how many lefts and rights this has up to the record itself."""
    lets = Lets()
    again = _alike(lets, layout)
    lefts_ahead = lets.let("if", again, ("two", layout.lefts), NOUGHT)
    rights_ahead = lets.let("if", again, ("two", layout.rights), NOUGHT)
    own = lets.let("if", ("one", layout.side), rights_ahead, lefts_ahead)
    left = lets.let("sub", UNIT, ("one", layout.side))
    lefts = lets.let("add", lefts_ahead, left)
    rights = lets.let("add", rights_ahead, ("one", layout.side))
    making.walk(cells, lets.carried(field_atoms("one", 0, layout.own) + (own, lefts, rights)))


def _count_rights(making, layout, cells):
    """Tells each record how many rights its run has. Lefts stand ahead there, so each right has been told of all."""
    lets = Lets()
    again = _alike(lets, layout)
    rights = lets.let("if", again, ("two", layout.rights), ("one", layout.rights))
    making.walk(cells[::-1], lets.carried(field_atoms("one", 0, layout.rights) + (rights,)))


def _tell_bases(making, layout, cells):
    """Tells each record the base of its run; the carrier keeps the last record that is here."""
    lets = Lets()
    again = _alike(lets, layout)
    end = _end_of_run(lets, layout)
    base = lets.let("if", again, ("two", layout.base), end)
    making.walk(cells, lets.carried(field_atoms("one", 0, layout.base) + (base,)))


def _say_over(making, layout, room):
    """Says over if the run of the carrier's record, the last one of all, ends beyond room."""
    lets = Lets()
    end = _end_of_run(lets, layout)
    beyond = lets.let("less", ("put", room), end)
    making.say_over(making.carrier, lets, beyond)


def _alike(lets, layout):
    """The atom that is 1 if the record stands in the same run as the carrier's one, else 0."""
    return lets.alike(list(range(layout.first_key, layout.side)))


def _end_of_run(lets, layout):
    """The atom of how many rows the run of the carrier's record gives, with all runs ahead; 0 without a record."""
    many = lets.let("mul", ("two", layout.lefts), ("two", layout.rights))
    return lets.let("add", ("two", layout.base), many)


def _part_sides(making, layout, cells, others):
    """Leaves just the lefts that meet a right in cells, and puts the rights that meet a left into others.

    Behind what it gives to a row each one has its goal, the place of the first of its copies, one for each record
    that it meets. Behind that a right has how many copies there are, its base, its number, and its run's rights.
    """
    lets = Lets()
    copies = lets.let("if", ("one", layout.side), ("one", layout.lefts), ("one", layout.rights))
    ahead = lets.let("mul", ("one", layout.own), copies)
    goal = lets.let("add", ("one", layout.base), ahead)
    left = lets.let("if", ("one", layout.side), NOUGHT, copies)
    right = lets.let("if", ("one", layout.side), copies, NOUGHT)
    lefts = (HERE,) + field_atoms("one", 1, layout.right_part) + (goal,)
    rights = (HERE,) + field_atoms("one", layout.right_part, layout.first_key) + (goal, copies)
    told = (("one", layout.base), ("one", layout.own), ("one", layout.rights))
    rule = lets.rule(("if", left, ("new", lefts), GONE), ("if", right, ("new", rights + told), GONE))
    for cell, other in zip(cells, others):
        making.step(cell, other, rule)


def _rights_in_rows(making, layout, cells, room):
    """As many cells as there can be rows, each with the right of its row; those behind the last row are gone."""
    goal = layout.first_key - layout.right_part + 1
    copies, base, own, rights = field_atoms("one", goal + 1, goal + 5)
    area = _copied(making, cells, room, goal + 5, goal)
    lets = Lets()
    # The copies stand side by side, but the one with the number time belongs to the left with this number.
    time = lets.let("sub", KEPT, ("one", goal))
    ahead = lets.let("mul", time, rights)
    first = lets.let("add", base, ahead)
    place = lets.let("add", first, own)
    within = lets.let("less", time, copies)
    stays = lets.let("if", HERE, within, NOUGHT)
    further = lets.let("add", KEPT, UNIT)
    atoms = (UNIT,) + field_atoms("one", 1, goal) + (place,)
    making.walk(area, lets.rule(("if", stays, ("new", atoms), GONE), ("new", (further,))))
    sort_here(making, area, ascending([goal]))
    return area


def _copied(making, cells, room, width, goal):
    """So many cells with copies of each record that is here from its goal on, up to the next goal or the end."""
    draw_area(making, cells, width)
    area = (cells + making.fresh(max(0, room - len(cells))))[:room]
    spread_area(making, area, width, goal)
    fill_area(making, area)
    return area


def _put_together(making, layout, lefts, rights):
    """Makes a row of each right that is here and the left at the same place, in the cell of the left."""
    left_part = field_atoms("one", 1, layout.right_part)
    right_part = field_atoms("two", 1, layout.first_key - layout.right_part + 1)
    rule = ((), ("if", KEPT, ("new", (UNIT,) + left_part + right_part), GONE), TWO)
    for left, right in zip(lefts, rights):
        making.step(left, right, rule)
