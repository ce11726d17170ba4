"""How any value is asked for its form, without ever raising."""

FIGURES = "0123456789"


def is_integer(value):
    """Whether value is an int that is not a bool."""
    return isinstance(value, int) and not isinstance(value, bool)


def is_between(value, least, most):
    """Whether value is an integer from least to most."""
    return is_integer(value) and least <= value <= most


def is_tuple(value, least, most):
    """Whether value is a tuple of least to most items."""
    return isinstance(value, tuple) and least <= len(value) <= most


def is_made_of(value, signs, least, most):
    """Whether value is a string of least to most of these signs."""
    if not isinstance(value, str) or not least <= len(value) <= most:
        return False
    return all([sign in signs for sign in value])


def word_of(value):
    """The string that the tuple value begins with; None if there is none."""
    if isinstance(value, tuple) and len(value) > 0 and isinstance(value[0], str):
        return value[0]
    return None


def integer_of(text, most):
    """The integer that text is, if it is one in decimal with at most so many figures; None if it is surely none."""
    figures = text[1:] if text[:1] == "-" else text
    if not is_made_of(figures, FIGURES, 1, most):
        return None
    return int(text)
