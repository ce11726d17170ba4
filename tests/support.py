"""What the tests share: strict comparing, odd values, and values changed in a part."""

import copy
import inspect
import random
import unittest

from unseentables.errors import Over, UnseenError


def strict(value):
    """value with the kind of each part written down, so that True is not 1 and a list is no tuple."""
    if isinstance(value, (tuple, list)):
        return (type(value).__name__, tuple([strict(item) for item in value]))
    if isinstance(value, dict):
        return ("dict", tuple([(strict(key), strict(item)) for key, item in value.items()]))
    return (type(value).__name__, value)


class Case(unittest.TestCase):
    """A test case that tells True from 1, and a tuple from a list."""

    maxDiff = None

    def told(self, result, expected):
        """result is expected, and of the same kinds throughout."""
        self.assertEqual(result, expected)
        self.assertEqual(strict(result), strict(expected))

    def calls(self, function, arguments):
        """What function returns, called by place and by name, twice, with arguments left as they were."""
        names = list(inspect.signature(function).parameters)
        self.assertEqual(len(names), len(arguments))
        before = strict(arguments)
        result = function(*arguments)
        kept = copy.deepcopy(result)
        self.told(function(*arguments), kept)
        self.told(function(**dict(zip(names, arguments))), kept)
        self.told(result, kept)
        self.assertEqual(strict(arguments), before)
        return result

    def outcome(self, function, *arguments):
        """What function returns, or "over"."""
        try:
            return function(*arguments)
        except Over:
            return "over"

    def keeps(self, record, other):
        """record keeps other: it begins with the same words, and has 0 in all further fields."""
        self.told(record, other + (0,) * (len(record) - len(other)))

    def refuses(self, error, fields, function, arguments):
        """function raises just this error with these fields, by place and by name, twice."""
        names = list(inspect.signature(function).parameters)
        before = strict(arguments)
        for _ in range(2):
            with self.assertRaises(UnseenError) as caught:
                function(*arguments)
            self.assertIs(caught.exception.__class__, error)
            self.told(vars(caught.exception), fields)
        with self.assertRaises(error) as caught:
            function(**dict(zip(names, arguments)))
        self.told(vars(caught.exception), fields)
        self.assertEqual(strict(arguments), before)


def nested(many):
    """A list in a list, many deep."""
    value = []
    for _ in range(many):
        value = [value]
    return value


ODD = (
    None, True, False, 0, 1, -1, 2, 7, 10 ** 12, 10 ** 12 + 1, -10 ** 12, -10 ** 12 - 1, 10 ** 399,
    "", " ", "a", "age", "Age", "a1", "a\n", "\n", "select", "number", "text", "table", "many", "a b", "~", "'a'",
    "a" * 20000, "a number", "a number\n5",
    (), [], {}, ((),), ([],), ({},), (None,), (None, None), (True, False), ("a", "number"), ["a", "number"],
    (("a", "number"),), [("a", "number")], {"a": "number"}, {("a", 1): [None]}, {None: 1, True: 2},
    ("a", "number", 1), ("number", 1), ("number", True), ("text", "x"), ("column", "a"), ("column", ["a"]),
    ("table", "a"), ("table", ["a"]), ("table",), (["table"], "a"), ({}, "a"), (("table", "a"),), ("where", 1, 2),
    ("add", 1, 2), ("not", None), ("not",), ("if", (), (), ()), ((("a", "number"),), ()), nested(28),
    tuple([0] * 3900), ("x",) * 33, ((),) * 33, (("a", "number"),) * 9,
)


def random_value(chance, deep):
    """Any value, with the words and names that the package knows strewn in."""
    if deep == 0 or chance.random() < 0.3:
        return chance.choice(ODD)
    items = [random_value(chance, deep - 1) for _ in range(chance.randrange(5))]
    kind = chance.randrange(6)
    if kind == 0:
        return items
    if kind == 1:
        return {str(place): item for place, item in enumerate(items)}
    word = chance.choice(("add", "not", "if", "less", "column", "table", "where", "give", "group", "join", "pairs"))
    return tuple([word] + items) if kind < 4 else tuple(items)


def changed(chance, value):
    """value with one part of it exchanged for another, taken out, doubled, or made a list."""
    if isinstance(value, tuple) and value and chance.random() < 0.8:
        place = chance.randrange(len(value))
        return value[:place] + (changed(chance, value[place]),) + value[place + 1:]
    way = chance.randrange(5)
    if isinstance(value, tuple):
        if way == 0:
            return list(value)
        if way == 1:
            return value[1:]
        if way == 2:
            return value + value[-1:]
    if isinstance(value, int) and way == 3:
        return bool(value)
    return random_value(chance, 2)


def any_values(seed, right, many):
    """Odd values, random ones, and right ones with one or two parts changed."""
    chance = random.Random(seed)
    found = list(ODD) + list(right)
    for _ in range(many):
        found.append(random_value(chance, 4))
        value = changed(chance, chance.choice(right))
        found.append(value)
        found.append(changed(chance, value))
    return found
