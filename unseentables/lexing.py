"""Texts cut into pieces."""

from unseentables.bounds import MAX_NUMBER, MAX_SIGNS
from unseentables.errors import BadQuestion
from unseentables.forms import FIGURES, integer_of
from unseentables.words import KEYWORDS, LETTERS, MAX_NUMBER_FIGURES, TEXT_SIGNS, is_name

BLANKS = " \n"
QUOTE = "'"
LONG_SIGNS = ("<=", ">=", "<>")
SHORT_SIGNS = ("(", ")", ",", "*", "=", "<", ">", "+", "-")


def pieces(value):
    """The triples (sort, what, place) of all pieces of value; BadQuestion where there is none."""
    if not isinstance(value, str):
        raise BadQuestion(("sign", 0))
    found = []
    place = _end_of(value, 0, BLANKS)
    while place < len(value):
        piece = _piece_at(value, place)
        if piece is None:
            raise BadQuestion(("sign", place))
        sort, what, end = piece
        found.append((sort, what, place))
        place = _end_of(value, end, BLANKS)
    return tuple(found)


def _end_of(value, place, signs):
    """The first place from this one on at which none of signs stands."""
    while place < len(value) and value[place] in signs:
        place += 1
    return place


def _piece_at(value, place):
    """The sort of the piece that begins at place, what it is, and where it ends; None if there is none."""
    sign = value[place]
    if sign in LETTERS:
        return _word_at(value, place)
    if sign in FIGURES:
        return _number_at(value, place)
    if sign == QUOTE:
        return _text_at(value, place)
    for many, signs in ((2, LONG_SIGNS), (1, SHORT_SIGNS)):
        what = value[place:place + many]
        if what in signs:
            return "sign", what, place + many
    return None


def _word_at(value, place):
    end = _end_of(value, place, LETTERS)
    word = value[place:end]
    if word in KEYWORDS:
        return "keyword", word, end
    return ("name", word, end) if is_name(word) else None


def _number_at(value, place):
    end = _end_of(value, place, FIGURES)
    figures = value[place:end]
    number = integer_of(figures, MAX_NUMBER_FIGURES)
    if number is None or number > MAX_NUMBER or str(number) != figures:
        return None
    return "number", number, end


def _text_at(value, place):
    end = _end_of(value, place + 1, TEXT_SIGNS)
    text = value[place + 1:end]
    if len(text) > MAX_SIGNS or value[end:end + 1] != QUOTE:
        return None
    return "text", text, end + 1
