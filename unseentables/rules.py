"""Rules: what a step of a program makes of the two records that it takes."""

from unseentables.bounds import MAX_FIELDS, MAX_LETS
from unseentables.digits import digit_at
from unseentables.forms import is_between, is_integer, is_tuple, word_of
from unseentables.words import is_text

# 10 ** MAX_FIGURES: the least integer that has more figures than a rule may hold.
TOO_LONG = (10 ** 50) ** 8
MAX_DIGIT = 12
# For each word of a let but "digit" how many atoms stand behind it.
ATOMS = {"add": 2, "sub": 2, "mul": 2, "less": 2, "same": 2, "if": 3}


def rule_error(value):
    """None if value is a rule; otherwise what is wrong first."""
    if not is_tuple(value, 3, 3) or not is_tuple(value[0], 0, MAX_LETS):
        return "form"
    lets, first, second = value
    for place, let in enumerate(lets):
        if not _is_let(let, place):
            return ("let", place)
    if not _is_record_rule(first, len(lets)):
        return "first"
    if not _is_record_rule(second, len(lets)):
        return "second"
    return None


def after_rule(rule, one, other):
    """The two records that a step with this rule writes, if it reads one and other."""
    lets, first, second = rule
    known = []
    for let in lets:
        known.append(_let_worth(let, one, other, known))
    return _made_record(first, one, other, known), _made_record(second, one, other, known)


def is_short_integer(value):
    """Whether value is an integer that a rule may hold."""
    return is_integer(value) and -TOO_LONG < value < TOO_LONG


def _is_let(value, many):
    """Whether value is a let that stands behind this many others."""
    word = word_of(value)
    if word == "digit":
        return len(value) == 3 and is_between(value[1], 0, MAX_DIGIT) and _is_atom(value[2], many)
    if word not in ATOMS or len(value) != ATOMS[word] + 1:
        return False
    return all([_is_atom(atom, many) for atom in value[1:]])


def _is_atom(value, many):
    """Whether value is an atom that stands behind this many lets."""
    word = word_of(value)
    if word is None or len(value) != 2:
        return False
    if word in ("one", "two"):
        return is_between(value[1], 0, MAX_FIELDS - 1)
    if word == "let":
        return is_between(value[1], 0, many - 1)
    return word == "put" and (is_short_integer(value[1]) or is_text(value[1]))


def _is_record_rule(value, many):
    """Whether value is a record rule behind this many lets."""
    if word_of(value) != "if":
        return _is_plain(value, many)
    if len(value) != 4 or not _is_atom(value[1], many):
        return False
    return _is_plain(value[2], many) and _is_plain(value[3], many)


def _is_plain(value, many):
    """Whether value is a record rule that does not choose."""
    word = word_of(value)
    if word == "new":
        return len(value) == 2 and is_tuple(value[1], 0, MAX_FIELDS) and all([_is_atom(at, many) for at in value[1]])
    return word in ("one", "two") and len(value) == 1


def _atom_worth(atom, one, other, known):
    """The word that atom comes to; known are the words of the lets so far."""
    word, what = atom
    if word == "one":
        return one[what] if what < len(one) else 0
    if word == "two":
        return other[what] if what < len(other) else 0
    if word == "let":
        return known[what]
    return what


def _let_worth(let, one, other, known):
    """The word that let comes to."""
    word = let[0]
    if word == "digit":
        return _digit(let[1], _atom_worth(let[2], one, other, known))
    x = _atom_worth(let[1], one, other, known)
    y = _atom_worth(let[2], one, other, known)
    if word == "if":
        return _atom_worth(let[3], one, other, known) if x == 0 else y
    if word == "same":
        return 1 if x == y else 0
    if isinstance(x, str) != isinstance(y, str):
        return 0
    if word == "less":
        return 1 if x < y else 0
    return 0 if isinstance(x, str) else _reckoned(word, x, y)


def _reckoned(word, x, y):
    if word == "add":
        return x + y
    if word == "sub":
        return x - y
    return x * y


def _digit(place, x):
    """The digit at place of x in twos; 0 if x is a text or below 0."""
    if isinstance(x, str) or x < 0:
        return 0
    return digit_at(place, x)


def _made_record(record_rule, one, other, known):
    """The record that record_rule comes to."""
    word = record_rule[0]
    if word == "if":
        chosen = 3 if _atom_worth(record_rule[1], one, other, known) == 0 else 2
        return _made_record(record_rule[chosen], one, other, known)
    if word == "new":
        return tuple([_atom_worth(atom, one, other, known) for atom in record_rule[1]])
    return one if word == "one" else other
