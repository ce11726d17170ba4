"""Right rules, programs and memories, made by chance, and odd values that look like parts of them."""

from unseentables.programs import program_error
from unseentables.rules import rule_error

WORDS = (0, 1, 2, -1, 5, 13, -8, 10 ** 30, "", "a", "b", "a b", "7", "z" * 12)
LIKE_RULES = (
    ("one",), ("two",), ("one", 0), ("two", 23), ("one", 24), ("let", 0), ("let", -1), ("put", 0), ("put", "a"),
    ("put", True), ("put", 10 ** 400), ("new", ()), ("new", []), ("new", (("one", 0),)), ("if", ("put", 1), ("one",)),
    ("if", ("put", 1), ("one",), ("two",)), ("add", ("one", 0), ("two", 0)), ("digit", 0, ("one", 0)),
    ("digit", 13, ("one", 0)), ((), ("one",), ("two",)), [(), ("one",), ("two",)], (1, (), ()), (0, 1, 0), [0, 1, 0],
    "cells 1", "cells 2\nrule\nfirst one\nsecond two\nstep 0 1 0", "one.0", "let.0", "rule", "step 0 1 0",
)


def random_atom(chance, many):
    """An atom behind this many lets."""
    word = chance.choice(("one", "two", "put", "let" if many else "one"))
    if word == "put":
        return (word, chance.choice(WORDS))
    if word == "let":
        return (word, chance.randrange(many))
    return (word, chance.choice((0, 1, 2, 3, 23)))


def random_let(chance, many):
    word = chance.choice(("add", "sub", "mul", "less", "same", "if", "digit"))
    if word == "digit":
        return (word, chance.randrange(13), random_atom(chance, many))
    return (word,) + tuple([random_atom(chance, many) for _ in range(3 if word == "if" else 2)])


def random_record_rule(chance, many, choosing=True):
    word = chance.choice(("one", "two", "new", "if" if choosing else "new"))
    if word == "new":
        return (word, tuple([random_atom(chance, many) for _ in range(chance.randrange(5))]))
    if word == "if":
        return (word, random_atom(chance, many), random_record_rule(chance, many, False),
                random_record_rule(chance, many, False))
    return (word,)


def random_rule(chance):
    """A rule of few lets, so that no product grows too large."""
    lets = []
    for _ in range(chance.randrange(4)):
        lets.append(random_let(chance, len(lets)))
    rule = (tuple(lets), random_record_rule(chance, len(lets)), random_record_rule(chance, len(lets)))
    assert rule_error(rule) is None
    return rule


def random_program(chance, cells, most_steps=6):
    """A program of at least two cells."""
    rules = tuple([random_rule(chance) for _ in range(chance.randrange(1, 4))])
    steps = []
    for _ in range(chance.randrange(most_steps + 1)):
        one, other = chance.sample(range(cells), 2)
        steps.append((one, other, chance.randrange(len(rules))))
    program = (cells, rules, tuple(steps))
    assert program_error(program) is None
    return program


def random_record(chance, most=5):
    return tuple([chance.choice(WORDS) for _ in range(chance.randrange(most + 1))])


def random_memory(chance, cells):
    return tuple([random_record(chance) for _ in range(cells)])
