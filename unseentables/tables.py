"""Columns, rows and tables: what is wrong with a value that is none."""

from unseentables.bounds import MAX_COLUMNS, MAX_ROOM
from unseentables.forms import is_tuple
from unseentables.words import KINDS, is_name, is_of_kind


def columns_error(value):
    """None if value is columns; otherwise what is wrong first."""
    if not is_tuple(value, 1, MAX_COLUMNS):
        return "form"
    for place, item in enumerate(value):
        if not _is_column(item):
            return ("column", place)
    place = place_of_twice(value)
    return None if place is None else ("twice", place)


def row_error(columns, value):
    """None if value is a row of columns; otherwise what is wrong first."""
    if not is_tuple(value, len(columns), len(columns)):
        return "form"
    for place, (item, column) in enumerate(zip(value, columns)):
        if not is_of_kind(item, column[1]):
            return ("value", place)
    return None


def table_error(value):
    """None if value is a table; otherwise what is wrong first."""
    if not is_tuple(value, 2, 2):
        return "form"
    columns, rows = value
    error = columns_error(columns)
    if error is not None:
        return ("columns", error)
    if not is_tuple(rows, 0, MAX_ROOM):
        return "rows"
    for place, row in enumerate(rows):
        error = row_error(columns, row)
        if error is not None:
            return ("row", place, error)
    return None


def place_of_twice(items):
    """The first place of an item whose name, its first part, stands ahead, too; None if there is none."""
    names = [item[0] for item in items]
    for place, name in enumerate(names):
        if name in names[:place]:
            return place
    return None


def place_at(columns, name):
    """The place of the column of this name."""
    return [column[0] for column in columns].index(name)


def kind_at(columns, name):
    """The kind of the column of this name."""
    return columns[place_at(columns, name)][1]


def _is_column(value):
    return is_tuple(value, 2, 2) and is_name(value[0]) and value[1] in KINDS
