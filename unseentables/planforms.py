"""Whether the items of a plan's node are formed as told, whatever columns there are."""

from unseentables.bounds import MAX_COLUMNS
from unseentables.forms import is_tuple
from unseentables.plannodes import TYING, is_node
from unseentables.words import is_name

GROUP_WORDS = ("count", "sum", "least", "greatest")


def is_formed(value):
    """Whether value is a node whose items, but for plans, expressions and many, are formed as told."""
    if not is_node(value):
        return False
    word = value[0]
    if word in ("table", "numbered"):
        return is_name(value[1])
    if word == "running":
        return is_name(value[1]) and is_name(value[2])
    if word == "give":
        return is_tuple(value[1], 1, MAX_COLUMNS) and all([_is_item(item) for item in value[1]])
    if word == "order":
        return is_tuple(value[1], 1, MAX_COLUMNS) and all([_is_key(key) for key in value[1]])
    if word in TYING:
        return is_tuple(value[1], 1, MAX_COLUMNS) and all([_is_tie(tie) for tie in value[1]])
    if word == "group":
        return _is_grouping(value[1], value[2])
    return True


def _is_item(value):
    return is_tuple(value, 2, 2) and is_name(value[0])


def _is_key(value):
    return _is_item(value) and value[1] in ("up", "down")


def _is_tie(value):
    return _is_item(value) and is_name(value[1])


def _is_grouping(names, items):
    if not is_tuple(names, 0, MAX_COLUMNS) or not is_tuple(items, 0, MAX_COLUMNS):
        return False
    return all([is_name(name) for name in names]) and all([_is_part(item) for item in items])


def _is_part(value):
    """Whether value is a new name, a word, and the name of which it tells, or None for count."""
    if not is_tuple(value, 3, 3) or not is_name(value[0]) or value[1] not in GROUP_WORDS:
        return False
    if value[1] == "count":
        return value[2] is None
    return is_name(value[2])
