"""A plain store that keeps rows in tuples, and right statements made by chance."""

from makers import random_plan, random_rows, random_text, small_expression
from unseentables.errors import BadPlan, BadTable, Full, NoMark, NoName, Over, Taken, TooMany, Unfit
from unseentables.expressions import kind_of, worth
from unseentables.meaning import meaning
from unseentables.plans import columns_of, plan_error
from unseentables.tables import columns_error, row_error
from unseentables.words import is_name

LENGTHS = {"make": 4, "drop": 2, "put": 3, "strike": 3, "change": 4, "ask": 2, "mark": 1, "back": 1}
WORDS = tuple(LENGTHS)


def is_whole(value):
    return isinstance(value, int) and not isinstance(value, bool)


class PlainStore:
    """What a store promises, told by rows in tuples."""

    def __init__(self):
        self.entries = []
        self.rows = {}
        self.kept = None
        self.many = 0

    def catalog(self):
        return tuple(self.entries)

    def tables(self):
        return tuple([(columns, self.rows[name]) for name, columns, _ in self.entries])

    def refusals(self, statement):
        """All errors of statement in their order, each a pair of its class and its fields, as far as they can be told."""
        if not isinstance(statement, tuple) or not statement or not isinstance(statement[0], str):
            return [(Unfit, {})]
        word = statement[0]
        if word not in LENGTHS or len(statement) != LENGTHS[word]:
            return [(Unfit, {})]
        if word in ("make", "drop", "put", "strike", "change") and not is_name(statement[1]):
            return [(Unfit, {})]
        found = getattr(self, "refusals_of_" + word)(*statement[1:])
        return found + ([(Full, {})] if self.many >= 40 else [])

    def refusals_of_make(self, name, columns, room):
        error = columns_error(columns)
        found = [] if error is None else [(BadTable, {"error": error})]
        found += [] if is_whole(room) and 1 <= room <= 32 else [(Unfit, {})]
        found += [(Taken, {"given": name})] if name in self.rows else []
        return found + ([(TooMany, {"limit": 6})] if len(self.entries) >= 6 else [])

    def refusals_of_drop(self, name):
        return [] if name in self.rows else [(NoName, {"given": name})]

    def refusals_of_put(self, name, row):
        if name not in self.rows:
            return [(NoName, {"given": name})]
        error = row_error(self.columns(name), row)
        return [] if error is None else [(BadTable, {"error": error})]

    def plan_refusals(self, plan):
        error = plan_error(self.catalog(), plan)
        return [] if error is None else [(BadPlan, {"error": error})]

    def refusals_of_strike(self, name, condition):
        if name not in self.rows:
            return [(NoName, {"given": name})]
        return self.plan_refusals(("where", condition, ("table", name)))

    def refusals_of_change(self, name, items, condition):
        if name not in self.rows:
            return [(NoName, {"given": name})]
        names = [column for column, _ in self.columns(name)]
        if not isinstance(items, tuple) or not 1 <= len(items) <= 8:
            return [(Unfit, {})]
        told = []
        for item in items:
            if not isinstance(item, tuple) or len(item) != 2 or item[0] not in names or item[0] in told:
                return [(Unfit, {})]
            told.append(item[0])
        found = self.plan_refusals(("where", condition, ("table", name)))
        whole = tuple([(column, dict(items).get(column, ("column", column))) for column in names])
        given = self.plan_refusals(("give", whole, ("table", name)))
        if not given and [kind_of(self.columns(name), made) for _, made in whole] != [
                kind for _, kind in self.columns(name)]:
            given = [(Unfit, {})]
        return found + given

    def refusals_of_ask(self, plan):
        return self.plan_refusals(plan)

    def refusals_of_mark(self):
        return []

    def refusals_of_back(self):
        return [] if self.kept is not None else [(NoMark, {})]

    def columns(self, name):
        return dict([entry[:2] for entry in self.entries])[name]

    def do(self, statement):
        """The answer to statement, which is not refused."""
        self.many += 1
        return getattr(self, "do_" + statement[0])(*statement[1:])

    def do_make(self, name, columns, room):
        self.entries.append((name, columns, room))
        self.rows[name] = ()
        return ("done",)

    def do_drop(self, name):
        self.entries = [entry for entry in self.entries if entry[0] != name]
        del self.rows[name]
        return ("done",)

    def do_put(self, name, row):
        room = [entry[2] for entry in self.entries if entry[0] == name][0]
        if len(self.rows[name]) == room:
            return ("full",)
        self.rows[name] += (row,)
        return ("done",)

    def do_strike(self, name, condition):
        columns, rows = self.columns(name), self.rows[name]
        self.rows[name] = tuple([row for row in rows if not worth(columns, row, condition)])
        return ("count", len(rows) - len(self.rows[name]))

    def do_change(self, name, items, condition):
        columns, found, many = self.columns(name), [], 0
        for row in self.rows[name]:
            if worth(columns, row, condition):
                many += 1
                row = tuple([worth(columns, row, dict(items).get(column, ("column", column)))
                             for column, _ in columns])
            found.append(row)
        if [1 for row in found for value in row if isinstance(value, int) and abs(value) > 10 ** 12]:
            return ("over",)
        self.rows[name] = tuple(found)
        return ("count", many)

    def do_ask(self, plan):
        try:
            return ("rows", columns_of(self.catalog(), plan), meaning(self.catalog(), self.tables(), plan))
        except Over:
            return ("over",)

    def do_mark(self):
        self.kept = (list(self.entries), dict(self.rows))
        return ("done",)

    def do_back(self):
        self.entries, self.rows = list(self.kept[0]), dict(self.kept[1])
        return ("done",)


def random_columns(chance):
    names = chance.sample("abcdefgh", chance.choice((1, 2, 2, 3, 3, 8)))
    return tuple([(name, chance.choice(("number", "text"))) for name in names])


def random_value_of(chance, kind):
    if kind == "text":
        return random_text(chance)
    return chance.choice((0, 1, 2, -1, 3, 10 ** 12, -10 ** 12, chance.randrange(-9, 10)))


def random_row(chance, columns):
    if chance.random() < 0.5:
        return random_rows(chance, columns, 1)[0]
    return tuple([random_value_of(chance, kind) for _, kind in columns])


def random_statement(chance, catalog, marked, deep=3, rooms=(1, 2, 3, 4, 5, 8)):
    """A statement that a store with this catalog does."""
    word = chance.choice(("make", "drop", "mark", "back", "ask", "ask", "ask") + ("put",) * 9 + ("strike", "change") * 3)
    fresh = [name for name in ("t", "u", "v", "w", "folk", "nuts", "zz") if name not in dict(
        [entry[:2] for entry in catalog])]
    if not catalog or word == "make" and len(catalog) < 6:
        return ("make", chance.choice(fresh), random_columns(chance), chance.choice(rooms))
    if word in ("make", "mark") or word == "back" and not marked:
        return ("mark",)
    if word == "back":
        return ("back",)
    name, columns, _ = chance.choice(catalog)
    if word == "drop":
        return (word, name)
    if word == "put":
        return (word, name, random_row(chance, columns))
    if word == "ask":
        return (word, random_plan(chance, catalog, chance.randrange(deep + 1)))
    condition = small_expression(chance, columns, "truth")
    if word == "strike":
        return (word, name, condition)
    items = tuple([(column, small_expression(chance, columns, kind)) for column, kind in chance.sample(
        columns, chance.randrange(1, len(columns) + 1))])
    return (word, name, items, condition)


def random_script(chance, many, deep=2, rooms=(1, 2, 3, 4, 5, 8)):
    """A row of statements that a new store does."""
    plain, found = PlainStore(), []
    while len(found) < many:
        statement = random_statement(chance, plain.catalog(), plain.kept is not None, deep, rooms)
        assert not plain.refusals(statement), statement
        plain.do(statement)
        found.append(statement)
    return tuple(found)
