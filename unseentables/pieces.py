"""Pieces of programs that go along an area, from one cell to the next."""

from unseentables.makings import HERE, KEPT, NOUGHT, ONE, TWO, WIDTH, Lets, Making, field_atoms


def counted_program(room, width):
    """The program that writes into the field width of each record how many ahead of it are here."""
    making = Making(room)
    count_area(making, tuple(range(room)), width)
    return making.program()


def totals_program(room, width, field):
    """The program that writes into the field width of each record the sum of field up to it, of all here."""
    making = Making(room)
    total_area(making, tuple(range(room)), width, field)
    return making.program()


def filled_program(room):
    """The program that puts in the place of each record that is gone the nearest one ahead that is here."""
    making = Making(room)
    fill_area(making, tuple(range(room)))
    return making.program()


def firsts_program(room, fields):
    """The program behind which of each run just the first record is here."""
    making = Making(room)
    thin_area(making, tuple(range(room)), WIDTH, fields)
    return making.program()


def lasts_program(room, fields):
    """The program behind which of each run just the last record is here."""
    making = Making(room)
    thin_area(making, tuple(reversed(range(room))), WIDTH, fields)
    return making.program()


def count_area(making, cells, width):
    """Writes behind the first width fields of each record how many ahead of it are here."""
    lets = Lets()
    further = lets.let("add", KEPT, HERE)
    making.tell(cells, width, lets, KEPT, further)


def total_area(making, cells, width, field):
    """Writes behind the first width fields of each record the sum of field up to it, of all that are here."""
    lets = Lets()
    # To add nothing makes 0 of a text, which would else make 0 of the whole sum.
    number = lets.let("add", ("one", field), NOUGHT)
    own = lets.let("if", HERE, number, NOUGHT)
    total = lets.let("add", KEPT, own)
    making.tell(cells, width, lets, total, total)


def fill_area(making, cells):
    """Puts in the place of each record that is gone the nearest one ahead that is here, if there is one."""
    lets = Lets()
    filled = lets.let("if", HERE, NOUGHT, KEPT)
    making.walk(cells, lets.rule(("if", filled, TWO, ONE), ("if", HERE, ONE, TWO)))


def thin_area(making, cells, width, places):
    """Of each run by places just the record that comes first in cells stays here."""
    lets = Lets()
    again = lets.alike(places)
    gone = ("new", (NOUGHT,) + field_atoms("one", 1, width))
    making.walk(cells, lets.rule(("if", again, gone, ONE), ("if", HERE, ONE, TWO)))
