"""Tables as texts: those that are read back, and those that a person reads."""

from unseentables.bounds import MAX_ROOM
from unseentables.errors import BadText
from unseentables.forms import integer_of
from unseentables.tables import table_error
from unseentables.words import MAX_NUMBER_FIGURES


def table_text(table):
    """The text of table: a line of its columns, then a line for each row."""
    columns, rows = table
    return "\n".join([columns_text(columns)] + [row_text(row) for row in rows])


def read_table(value):
    """The table of which value is the text; BadText if it is the text of none."""
    if not isinstance(value, str):
        raise BadText()
    table = _loosely_read(value.split("\n"))
    # What was read loosely is the table only if its own text is just this one.
    if table_error(table) is not None or table_text(table) != value:
        raise BadText()
    return table


def grid(columns, rows):
    """The rows under the names of their columns, as lines that a person reads."""
    lines = [[column[0] for column in columns]]
    for row in rows:
        lines.append([str(value) for value in row])
    widths = []
    for place in range(len(columns)):
        widths.append(max([len(line[place]) for line in lines]))
    lines.insert(1, ["-" * width for width in widths])
    filled = [_grid_line(columns, widths, line) for line in lines]
    many = "(1 row)" if len(rows) == 1 else f"({len(rows)} rows)"
    return "\n".join(filled + [many])


def columns_text(columns):
    """The columns of a table in one line."""
    return ", ".join([name + " " + kind for name, kind in columns])


def row_text(row):
    """The values of one row in one line."""
    return ", ".join([_value_text(value) for value in row])


def _value_text(value):
    if isinstance(value, str):
        return "'" + value + "'"
    return str(value)


def _loosely_read(lines):
    """A pair that is the right table if lines are those of one."""
    columns = []
    for column in lines[0].split(", "):
        name, _, kind = column.partition(" ")
        columns.append((name, kind))
    rows = []
    # One row more than a table can have is enough to be refused.
    for line in lines[1:MAX_ROOM + 2]:
        rows.append(tuple([_loosely_value(piece) for piece in line.split(", ")]))
    return tuple(columns), tuple(rows)


def _loosely_value(piece):
    """The value that piece is the text of, if it is that of one; None if it is surely none."""
    if len(piece) >= 2 and piece[0] == "'" and piece[-1] == "'":
        return piece[1:-1]
    return integer_of(piece, MAX_NUMBER_FIGURES)


def _grid_line(columns, widths, words):
    """One line of a grid: words filled up to widths, by the kinds of columns."""
    parts = []
    for column, width, word in zip(columns, widths, words):
        parts.append(word.rjust(width) if column[1] == "number" else word.ljust(width))
    return "  ".join(parts).rstrip(" ")
