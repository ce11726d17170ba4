"""Sorting records by fixed exchanges."""

from unseentables.gates import gates
from unseentables.makings import KEPT, NOUGHT, ONE, TWO, UNIT, WIDTH, Lets, Making


def order_rule(keys):
    """The rule that exchanges two records if the second one stands ahead of the first one by keys."""
    lets = Lets()
    ahead = NOUGHT
    # From the last key on, as each earlier one decides unless the words there are the same.
    for field, way in reversed(keys):
        lesser, greater = ("two", "one") if way == "up" else ("one", "two")
        less = lets.let("less", (lesser, field), (greater, field))
        same = lets.let("same", ("one", field), ("two", field))
        ahead = lets.let("if", same, ahead, less)
    return lets.rule(("if", ahead, TWO, ONE), ("if", ahead, ONE, TWO))


def sort_program(many, keys):
    """The program that sorts the records of so many cells by keys; those alike in them stay in their order."""
    making = Making(many)
    cells = tuple(range(many))
    lets = Lets()
    further = lets.let("add", KEPT, UNIT)
    # By their numbers no two records are alike, so gates of any sort leave them in their order.
    making.tell(cells, WIDTH, lets, KEPT, further)
    sort_area(making, cells, keys + ((WIDTH, "up"),))
    making.cut(cells, WIDTH)
    return making.program()


def sort_area(making, cells, keys):
    """Sorts the records of cells by keys."""
    rule = order_rule(keys)
    for low, high in gates(len(cells)):
        making.step(cells[low], cells[high], rule)


def sort_here(making, cells, keys):
    """Sorts the records of cells that are here by keys, ahead of all others."""
    sort_area(making, cells, ((0, "down"),) + keys)


def ascending(places):
    """The keys that sort by the fields at places, ascending."""
    return tuple([(place, "up") for place in places])
