"""Names and keywords, and the values that tables hold."""

from unseentables.bounds import MAX_NUMBER, MAX_SIGNS
from unseentables.forms import is_between, is_made_of

KEYWORDS = (
    "and", "append", "as", "ask", "back", "by", "change", "count", "distinct", "down", "drop", "else", "first",
    "from", "greatest", "group", "having", "if", "into", "join", "keep", "least", "less", "make", "mark", "meet",
    "not", "number", "numbered", "on", "or", "order", "pairs", "put", "room", "running", "select", "strike", "sum",
    "text", "then", "to", "up", "values", "where", "with", "within", "without",
)
KINDS = ("number", "text")
LETTERS = "abcdefghijklmnopqrstuvwxyz"
TEXT_SIGNS = "abcdefghijklmnopqrstuvwxyz0123456789 "
MAX_LETTERS = 8
# MAX_NUMBER has this many figures; longer rows of figures are no numbers, and are not reckoned with.
MAX_NUMBER_FIGURES = 13


def is_name(value):
    """Whether value is a name: 1 to 8 small letters, and no keyword."""
    return is_made_of(value, LETTERS, 1, MAX_LETTERS) and value not in KEYWORDS


def is_number(value):
    """Whether value is an integer that a table can hold."""
    return is_between(value, -MAX_NUMBER, MAX_NUMBER)


def is_text(value):
    """Whether value is a text that a table can hold."""
    return is_made_of(value, TEXT_SIGNS, 0, MAX_SIGNS)


def is_of_kind(value, kind):
    """Whether value is one that a column of this kind can hold."""
    if kind == "number":
        return is_number(value)
    return is_text(value)
