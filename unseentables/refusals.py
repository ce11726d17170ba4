"""What a store does not do."""

from unseentables.bounds import MAX_COLUMNS, MAX_ROOM, MAX_TABLES
from unseentables.errors import BadPlan, BadTable, NoMark, NoName, Taken, TooMany, Unfit
from unseentables.forms import is_between, is_tuple, word_of
from unseentables.planframes import entry_of
from unseentables.plans import columns_of, plan_error
from unseentables.tables import columns_error, place_of_twice, row_error
from unseentables.words import is_name

# How many items the tuple of each word has.
ITEMS = {"make": 4, "drop": 2, "put": 3, "strike": 3, "change": 4, "ask": 2, "mark": 1, "back": 1}
# The words behind which the name of a table that is there is told.
NAMING = ("drop", "put", "strike", "change")


def refuse(ground, value):
    """Raises what is wrong first with value on ground, if it is no statement that can be done there."""
    word = word_of(value)
    if word not in ITEMS or len(value) != ITEMS[word]:
        raise Unfit()
    if (word == "make" or word in NAMING) and not is_name(value[1]):
        raise Unfit()
    if word in NAMING and entry_of(ground.catalog, value[1]) is None:
        raise NoName(value[1])
    check = CHECKS[word]
    check(ground, value)


def whole_row(columns, items):
    """For each of columns the pair of its name and its expression in items, or itself if there is none."""
    given = dict(items)
    return tuple([(name, given.get(name, ("column", name))) for name, _ in columns])


def _check_make(ground, value):
    _, name, columns, room = value
    _refuse_table(columns_error(columns))
    if not is_between(room, 1, MAX_ROOM):
        raise Unfit()
    if entry_of(ground.catalog, name) is not None:
        raise Taken(name)
    if len(ground.catalog) == MAX_TABLES:
        raise TooMany(MAX_TABLES)


def _check_put(ground, value):
    _refuse_table(row_error(entry_of(ground.catalog, value[1])[1], value[2]))


def _check_strike(ground, value):
    _refuse_plan(ground, ("where", value[2], ("table", value[1])))


def _check_change(ground, value):
    _, name, items, condition = value
    columns = entry_of(ground.catalog, name)[1]
    if not _are_items(columns, items):
        raise Unfit()
    _refuse_plan(ground, ("where", condition, ("table", name)))
    whole = ("give", whole_row(columns, items), ("table", name))
    _refuse_plan(ground, whole)
    if columns_of(ground.catalog, whole) != columns:
        raise Unfit()


def _check_ask(ground, value):
    _refuse_plan(ground, value[1])


def _check_back(ground, value):
    if ground.kept is None:
        raise NoMark()


def _check_nothing(ground, value):
    pass


def _refuse_table(error):
    if error is not None:
        raise BadTable(error)


def _refuse_plan(ground, plan):
    error = plan_error(ground.catalog, plan)
    if error is not None:
        raise BadPlan(error)


def _are_items(columns, value):
    """Whether value is pairs of a name of columns, none of them twice, and something."""
    if not is_tuple(value, 1, MAX_COLUMNS) or not all([is_tuple(item, 2, 2) for item in value]):
        return False
    names = [name for name, _ in columns]
    return all([item[0] in names for item in value]) and place_of_twice(value) is None


CHECKS = {
    "make": _check_make, "drop": _check_nothing, "put": _check_put, "strike": _check_strike, "change": _check_change,
    "ask": _check_ask, "mark": _check_nothing, "back": _check_back,
}
