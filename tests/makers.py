"""Right expressions, tables and plans, made by chance."""

from unseentables.expressions import expression_error
from unseentables.plans import columns_of, plan_error

NAMES = "abcdefghijklmnop"


def random_number(chance):
    return chance.choice((0, 1, 2, -1, -3, 7, 10 ** 12, -10 ** 12, chance.randrange(-5, 6)))


def random_text(chance):
    return chance.choice(("", " ", "a", "ab", "b", "a 1", "z" * 12, "0"))


def random_expression(chance, columns, kind, deep):
    """An expression of columns of this kind."""
    fitting = [("column", name) for name, its_kind in columns if its_kind == kind]
    if fitting and chance.random() < 0.4:
        return chance.choice(fitting)
    if deep == 0 and kind == "truth":
        return ("less", ("number", random_number(chance)), ("number", random_number(chance)))
    if deep == 0 or chance.random() < 0.15 and kind != "truth":
        return ("number", random_number(chance)) if kind == "number" else ("text", random_text(chance))
    if chance.random() < 0.25 or kind == "text":
        return ("if", random_expression(chance, columns, "truth", deep - 1),
                random_expression(chance, columns, kind, deep - 1),
                random_expression(chance, columns, kind, deep - 1))
    if kind == "number":
        word, inner = chance.choice(("add", "sub", "mul")), "number"
    else:
        word = chance.choice(("less", "same", "not", "and", "or"))
        inner = chance.choice(("number", "text")) if word in ("less", "same") else "truth"
    many = 1 if word == "not" else 2
    return (word,) + tuple([random_expression(chance, columns, inner, deep - 1) for _ in range(many)])


def small_expression(chance, columns, kind):
    """A random expression of few enough parts."""
    while True:
        expression = random_expression(chance, columns, kind, 3)
        if expression_error(columns, expression) is None:
            return expression


def random_rows(chance, columns, many):
    """So many rows, of few unlike values."""
    numbers, texts = (-1, 0, 0, 1, 2), ("", "a", "a", "b", "a b")
    return tuple([
        tuple([chance.choice(numbers if kind == "number" else texts) for _, kind in columns]) for _ in range(many)])


def random_tables(chance, catalog):
    """Fitting tables of catalog: some empty, some full."""
    found = []
    for _, columns, room in catalog:
        many = chance.choice((0, room, chance.randrange(room + 1)))
        found.append((columns, random_rows(chance, columns, many)))
    return tuple(found)


def random_node(chance, catalog, word, below):
    """A node of this word over plans below; it may be none that is right."""
    p, q = below
    columns = columns_of(catalog, p)
    names = [name for name, _ in columns]
    fresh = chance.choice(NAMES)
    many = chance.randrange(1, 9)
    ties = tuple(zip(names[:1], [name for name, _ in columns_of(catalog, q)][:1]))
    if word == "where":
        return (word, small_expression(chance, columns, "truth"), p)
    if word == "give":
        items = [(chance.choice(NAMES), small_expression(chance, columns, chance.choice(("number", "text"))))
                 for _ in range(chance.randrange(1, 4))]
        return (word, tuple(items), p)
    if word == "order":
        keys = chance.sample(names, chance.randrange(1, len(names) + 1))
        return (word, tuple([(name, chance.choice(("up", "down"))) for name in keys]), p)
    if word in ("first", "keep"):
        return (word, many, p)
    if word == "group":
        keys = chance.sample(names, chance.randrange(len(names) + 1))
        items = [(chance.choice(NAMES), chance.choice(("sum", "least", "greatest")), chance.choice(names))
                 for _ in range(chance.randrange(3))]
        return (word, tuple(keys), tuple(items) + ((fresh, "count", None),), p)
    if word == "numbered":
        return (word, fresh, p)
    if word == "running":
        return (word, fresh, chance.choice(names), p)
    if word == "join":
        return (word, ties, chance.randrange(1, 65), p, q)
    if word in ("with", "without"):
        return (word, ties, p, q)
    if word == "distinct":
        return (word, p)
    return (word, p, q)


WORDS = ("where", "give", "order", "first", "keep", "distinct", "group", "numbered", "running", "append", "less",
         "meet", "join", "with", "without", "pairs")


def random_plan(chance, catalog, deep, words=WORDS):
    """A plan of catalog."""
    if deep == 0:
        return ("table", chance.choice(catalog)[0])
    while True:
        word = chance.choice(words)
        below = [random_plan(chance, catalog, chance.randrange(deep), words) for _ in range(2)]
        if word in ("append", "less", "meet") and chance.random() < 0.7:
            below[1] = below[0]
        node = random_node(chance, catalog, word, below)
        if plan_error(catalog, node) is None:
            return node
