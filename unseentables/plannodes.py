"""The nodes of plans: their words, and which of their items are plans themselves."""

from unseentables.forms import word_of

# For each word how many items its tuple has, and how many of these, the last ones, are plans.
NODES = {
    "table": (2, 0), "where": (3, 1), "give": (3, 1), "order": (3, 1), "first": (3, 1), "keep": (3, 1),
    "distinct": (2, 1), "group": (4, 1), "numbered": (3, 1), "running": (4, 1), "append": (3, 2), "less": (3, 2),
    "meet": (3, 2), "join": (5, 2), "with": (4, 2), "without": (4, 2), "pairs": (3, 2),
}
# The words whose second item tells which names of both plans belong together.
TYING = ("join", "with", "without")
# The words of which both plans have columns of the same kinds.
LIKE = ("append", "less", "meet")


def is_node(value):
    """Whether value is a tuple of a word and as many items as the plan of this word has."""
    word = word_of(value)
    return word in NODES and len(value) == NODES[word][0]


def plans_in(value):
    """The one or two items of value that stand where the plans of its word stand."""
    if not is_node(value):
        return ()
    return value[len(value) - NODES[value[0]][1]:]


def many_of(node):
    """How many rows node, a first, a keep or a join, lets at the most."""
    return node[2] if node[0] == "join" else node[1]
