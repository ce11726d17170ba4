"""For each statement its program, made before anything is known of what the tables hold.

Rows that are here stand in the first cells of their table: all programs leave them so.
"""

from unseentables.bounds import MAX_NUMBER
from unseentables.grounds import Ground
from unseentables.makings import GONE, HERE, KEPT, NOUGHT, ONE, TWO, UNIT, Lets, Making, field_atoms
from unseentables.nodeareas import plan_area
from unseentables.planframes import entry_of
from unseentables.planmakings import PlanMaking
from unseentables.reckoning import reckoned
from unseentables.routing import draw_area
from unseentables.tables import place_at


def deed(ground, statement):
    """The program of statement, the cells in which it leaves the answer or None, and the ground behind it."""
    do = DEEDS[statement[0]]
    return do(ground, statement)


def _make(ground, statement):
    _, name, columns, room = statement
    many = ground.cells + room
    catalog = ground.catalog + ((name, columns, room),)
    return Making(many).program(), None, Ground(catalog, ground.starts + (ground.cells,), many, ground.kept)


def _drop(ground, statement):
    place = place_at(ground.catalog, statement[1])
    catalog = ground.catalog[:place] + ground.catalog[place + 1:]
    starts = ground.starts[:place] + ground.starts[place + 1:]
    return Making(ground.cells).program(), None, Ground(catalog, starts, ground.cells, ground.kept)


def _put(ground, statement):
    making = _begun(ground)
    cells = making.table_cells(statement[1])
    row = (UNIT,) + tuple([("put", value) for value in statement[2]])
    lets = Lets()
    # The flag carries 1 until a cell is found that is free.
    fits = lets.let("if", HERE, NOUGHT, KEPT)
    making.step(making.over, cells[0], ((), ("new", (UNIT,)), TWO))
    making.beside(cells, making.over, lets.rule(("if", fits, ("new", row), ONE), ("if", fits, GONE, TWO)))
    return making.program(), ((), making.over), ground


def _strike(ground, statement):
    _, name, condition = statement
    making = _begun(ground)
    columns, cells = entry_of(ground.catalog, name)[1], making.table_cells(name)
    found = making.fresh(1)
    lets = Lets()
    struck, many = _counted(lets, columns, condition)
    making.beside(cells, found[0], lets.rule(("if", struck, GONE, ONE), ("new", (many,))))
    draw_area(making, cells, len(columns) + 1)
    making.cut(cells, len(columns) + 1)
    return making.program(), (found, making.over), ground


def _change(ground, statement):
    _, name, items, condition = statement
    making = _begun(ground)
    columns, cells = entry_of(ground.catalog, name)[1], making.table_cells(name)
    found, width = making.fresh(1), len(columns) + 1
    lets = Lets()
    changed, many = _counted(lets, columns, condition)
    own = field_atoms("one", 0, width)
    making.beside(cells, found[0], lets.rule(("new", own + (changed,)), ("new", (many,))))
    values = [("one", place) for place in range(1, width)]
    for number, (column, expression) in enumerate(items):
        _tell_value(making, cells, columns, width + 1 + number, expression)
        values[place_at(columns, column)] = ("one", width + 1 + number)
    lets = Lets()
    # Only now it is known whether any row is over.
    chosen = lets.let("if", KEPT, NOUGHT, ("one", width))
    making.beside(cells, making.over, lets.rule(("if", chosen, ("new", (HERE,) + tuple(values)), ("new", own)), TWO))
    return making.program(), (found, making.over), ground


def _tell_value(making, cells, columns, place, expression):
    """Writes into the field place what expression comes to, and says over if that is too great in a changed row."""
    lets = Lets()
    value = reckoned(lets, columns, expression)
    low = lets.let("less", value, ("put", -MAX_NUMBER))
    high = lets.let("less", ("put", MAX_NUMBER), value)
    beyond = lets.let("if", low, UNIT, high)
    said = lets.let("if", ("one", len(columns) + 1), beyond, NOUGHT)
    over = lets.let("if", KEPT, UNIT, said)
    atoms = field_atoms("one", 0, place) + (value,)
    making.beside(cells, making.over, lets.rule(("new", atoms), ("new", (over,))))


def _counted(lets, columns, condition):
    """The atom that is 1 for a row for which condition is True, else 0, and that of how many these are so far."""
    truth = reckoned(lets, columns, condition)
    found = lets.let("if", HERE, truth, NOUGHT)
    return found, lets.let("add", KEPT, found)


def _ask(ground, statement):
    making = _begun(ground)
    answer = plan_area(making, statement[1])
    return making.program(), (answer, making.over), ground


def _mark(ground, statement):
    program, starts, many = _copied(ground, ground.catalog, ground.starts)
    return program, None, Ground(ground.catalog, ground.starts, many, (ground.catalog, starts))


def _back(ground, statement):
    catalog, kept = ground.kept
    program, starts, many = _copied(ground, catalog, kept)
    return program, None, Ground(catalog, starts, many, ground.kept)


def _copied(ground, catalog, starts):
    """The program that copies the tables of catalog to new cells, their starts there, and how many cells there are."""
    making = Making(ground.cells + sum([entry[2] for entry in catalog]))
    found, end = [], ground.cells
    for entry, start in zip(catalog, starts):
        found.append(end)
        for cell in range(start, start + entry[2]):
            making.step(cell, end, ((), ONE, ONE))
            end += 1
    return making.program(), tuple(found), end


def _begun(ground):
    """A program in the making over the tables of ground; its cell over, like each new one, begins as (0,)."""
    return PlanMaking(ground.catalog, ground.starts, ground.cells)


DEEDS = {
    "make": _make, "drop": _drop, "put": _put, "strike": _strike, "change": _change, "ask": _ask, "mark": _mark,
    "back": _back,
}
