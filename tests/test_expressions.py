"""Expressions: their faults, their kinds, and what they come to."""

import random

from makers import random_expression, random_rows, small_expression
from support import Case, any_values
from unseentables.expressions import expression_error, kind_of, names_in, put_in, worth

PEOPLE = (("who", "text"), ("age", "number"))
WHO, AGE = ("column", "who"), ("column", "age")
ONE, X = ("number", 1), ("text", "x")
YOUNG = ("less", AGE, ("number", 40))
TWICE = ("mul", AGE, ("number", 2))
BIG = 10 ** 12
RIGHT = {
    ("column", "who"): "text", ("column", "age"): "number", ONE: "number", ("number", -BIG): "number",
    ("number", BIG): "number", X: "text", ("text", ""): "text", ("text", "a" * 12): "text",
    ("add", AGE, ONE): "number", ("sub", AGE, ONE): "number", ("mul", AGE, ONE): "number",
    ("less", AGE, ONE): "truth", ("less", WHO, X): "truth", ("same", AGE, ONE): "truth", ("same", WHO, X): "truth",
    ("not", YOUNG): "truth", ("and", YOUNG, YOUNG): "truth", ("or", YOUNG, YOUNG): "truth",
    ("if", YOUNG, AGE, ONE): "number", ("if", YOUNG, WHO, X): "text", ("if", YOUNG, YOUNG, YOUNG): "truth",
}


def nots(many):
    """An expression of many parts: so many times "not", less three, over a comparison."""
    value = ("same", ONE, ONE)
    for _ in range(many - 3):
        value = ("not", value)
    return value


class Faults(Case):
    def error(self, value, error):
        with self.subTest(str(value)[:70]):
            self.told(expression_error(PEOPLE, value), error)

    def test_right_ones(self):
        for value, kind in RIGHT.items():
            self.error(value, None)
            self.told(kind_of(PEOPLE, value), kind)

    def test_form(self):
        for value in (
                None, True, False, 5, "age", "column", (), [], {}, ("age",), (None,), (5, 6), (("add",), ONE, ONE),
                (["add"], ONE, ONE), ({}, ONE, ONE), (True, ONE, ONE), list(YOUNG), ["number", 1], ("xor", YOUNG, YOUNG),
                ("Add", ONE, ONE), ("div", ONE, ONE), ("column",), ("column", "age", "age"), ("number",),
                ("number", 1, 1), ("text",), ("text", "x", "x"), ("number", True), ("number", False),
                ("number", None), ("number", "1"), ("number", BIG + 1), ("number", -BIG - 1), ("number", (1,)),
                ("text", "X"), ("text", "a" * 13), ("text", "a\n"), ("text", None), ("text", 5), ("text", ["x"]),
                ("table", "age"), ("truth", True)):
            self.error(value, ("form", ()))

    def test_an_item_more_or_less(self):
        for value in RIGHT:
            self.error(value[:-1], ("form", ()))
            self.error(value + (ONE,), ("form", ()))
            self.error(value + value[-1:], ("form", ()))
            self.error(list(value), ("form", ()))
        self.error(("if", YOUNG, ONE), ("form", ()))
        self.error(("not", YOUNG, YOUNG), ("form", ()))

    def test_wrong_parts_beneath_a_wrong_count_are_not_looked_at(self):
        self.error(("add", ("column", "size")), ("form", ()))
        self.error(("not", None, None), ("form", ()))
        self.error(("number", ("add", None, None)), ("form", ()))
        self.error(["add", None, None], ("form", ()))

    def test_name(self):
        for name in ("size", "", "Age", "whos", None, 5, True, ("age",), ["age"], {}, ("column", "age"), "a" * 20000):
            self.error(("column", name), ("name", ()))
            self.error(("not", ("column", name)), ("name", (1,)))

    def test_kind(self):
        for value in (
                ("add", YOUNG, ONE), ("add", ONE, YOUNG), ("add", WHO, ONE), ("sub", ONE, X), ("mul", X, X),
                ("less", WHO, ONE), ("less", ONE, WHO), ("less", YOUNG, YOUNG), ("same", YOUNG, YOUNG),
                ("same", X, ONE), ("same", YOUNG, ONE), ("less", ONE, YOUNG), ("not", ONE), ("not", X),
                ("and", YOUNG, ONE), ("and", X, YOUNG), ("or", ONE, YOUNG), ("or", YOUNG, X), ("if", ONE, X, X),
                ("if", X, ONE, ONE), ("if", YOUNG, X, ONE), ("if", YOUNG, ONE, YOUNG), ("if", YOUNG, YOUNG, X)):
            self.error(value, ("kind", ()))
            self.error(("same", X, value), ("kind", (2,)))

    def test_ways(self):
        self.error(("if", YOUNG, X, None), ("form", (3,)))
        self.error(("if", None, X, X), ("form", (1,)))
        self.error(("add", ONE, ("mul", ("number", 2), None)), ("form", (2, 2)))
        self.error(("and", ("less", WHO, ONE), ("column", "size")), ("kind", (1,)))
        self.error(("not", ("not", ("not", ("column", "size")))), ("name", (1, 1, 1)))
        self.error(("if", YOUNG, ("if", YOUNG, ("if", YOUNG, ONE, ("add", ONE, X)), ONE), ONE), ("kind", (2, 2, 3)))

    def test_two_faults(self):
        self.error(("add", None, ("column", "size")), ("form", (1,)))
        self.error(("add", ("column", "size"), None), ("name", (1,)))
        self.error(("add", X, None), ("form", (2,)))
        self.error(("if", ONE, X, ("column", "size")), ("name", (3,)))
        self.error(("not", ("add", X, ONE)), ("kind", (1,)))
        self.error(("add", ("not", ONE), ("column", 5)), ("kind", (1,)))
        self.error(("add", ("not", ("column", 5)), None), ("name", (1, 1)))

    def test_many(self):
        for value in (nots(40), nots(39)):
            self.error(value, None)
        self.error(nots(41), ("many", ()))
        self.error(("and", nots(20), nots(19)), None)
        self.error(("and", nots(20), nots(20)), ("many", ()))
        self.error(("not", ("and", nots(19), nots(19))), None)

    def test_many_ahead_of_all(self):
        wrong = ("add", ("add", None, None), None)
        for _ in range(17):
            wrong = ("add", wrong, None)
        self.error(wrong, ("form", (1,) * 19))
        self.error(("not", wrong), ("form", (1,) * 20))
        self.error(("add", wrong, None), ("many", ()))
        self.error(("not", ("not", wrong)), ("many", ()))
        self.error(("if", nots(20), nots(20), None), ("many", ()))

    def test_parts_that_are_none_are_not_counted(self):
        self.error(("number", nots(41)), ("form", ()))
        self.error(("xor", nots(41), nots(41)), ("form", ()))
        self.error(("column", nots(41)), ("name", ()))
        self.error(("add", nots(41)), ("form", ()))
        self.error([nots(41), nots(41)], ("form", ()))

    def test_values_far_too_large(self):
        deep = ONE
        for _ in range(30):
            deep = ("add", deep, deep)
        self.told(expression_error(PEOPLE, deep), ("many", ()))
        self.error(("not",) * 4000, ("form", ()))

    def test_any_value(self):
        for value in any_values(7, list(RIGHT) + [nots(38), ("if", ("not", YOUNG), TWICE, ("sub", TWICE, AGE))], 1500):
            error = expression_error(PEOPLE, value)
            if error is None:
                self.assertIn(kind_of(PEOPLE, value), ("number", "text", "truth"))
                continue
            word, way = error
            self.assertIn(word, ("many", "form", "name", "kind"))
            for place in way:
                value = value[place]
            if word == "name":
                self.assertEqual(value[0], "column")

    def test_columns_of_one_name_only(self):
        columns = (("a", "number"),)
        self.told(expression_error(columns, ("column", "a")), None)
        self.told(expression_error(columns, AGE), ("name", ()))

    def test_calls(self):
        for value in (YOUNG, None, ("not", ["x"]), nots(41), ("add", X, ONE)):
            self.calls(expression_error, (PEOPLE, value))
        self.calls(kind_of, (PEOPLE, YOUNG))
        self.told(kind_of(expression=YOUNG, columns=PEOPLE), "truth")


class Worths(Case):
    def comes_to(self, expression, value, row=("ann", 30)):
        self.told(worth(PEOPLE, row, expression), value)

    def test_each_word(self):
        seven, nine = ("number", 7), ("number", 9)
        self.comes_to(AGE, 30)
        self.comes_to(WHO, "ann")
        self.comes_to(("number", -5), -5)
        self.comes_to(("text", " b"), " b")
        self.comes_to(("add", seven, nine), 16)
        self.comes_to(("sub", seven, nine), -2)
        self.comes_to(("mul", seven, nine), 63)
        for word, told in (("less", (True, False, False)), ("same", (False, True, False))):
            self.comes_to((word, seven, nine), told[0])
            self.comes_to((word, seven, seven), told[1])
            self.comes_to((word, nine, seven), told[2])

    def test_truths(self):
        truths = {True: ("less", ONE, AGE), False: ("less", AGE, ONE)}
        for one in (True, False):
            self.comes_to(("not", truths[one]), not one)
            self.comes_to(("if", truths[one], ("number", 5), ("number", 6)), 5 if one else 6)
            self.comes_to(("if", truths[one], truths[False], truths[True]), not one)
            for other in (True, False):
                self.comes_to(("and", truths[one], truths[other]), one and other)
                self.comes_to(("or", truths[one], truths[other]), one or other)

    def test_texts(self):
        order = ("", " ", " a", "0", "9", "9 ", "a", "a 1", "a1", "ab", "b", "z" * 12)
        for place, one in enumerate(order):
            for at, other in enumerate(order):
                self.comes_to(("less", ("text", one), ("text", other)), place < at)
                self.comes_to(("same", ("text", one), ("text", other)), place == at)

    def test_numbers_of_any_size(self):
        self.comes_to(("mul", AGE, AGE), 10 ** 24, ("", BIG))
        self.comes_to(("add", AGE, ONE), 10 ** 300 + 1, ("", 10 ** 300))
        self.comes_to(("sub", ("sub", AGE, AGE), AGE), -10 ** 300, ("", 10 ** 300))
        self.comes_to(("less", AGE, ("number", BIG)), True, ("", -10 ** 300))

    def test_kinds_and_bounds(self):
        chance = random.Random(8)
        for _ in range(1000):
            kind = chance.choice(("number", "text", "truth"))
            expression = small_expression(chance, PEOPLE, kind)
            row = random_rows(chance, PEOPLE, 1)[0]
            self.told(kind_of(PEOPLE, expression), kind)
            value = worth(PEOPLE, row, expression)
            self.assertIs(type(value), {"number": int, "text": str, "truth": bool}[kind])
            if kind == "number":
                self.assertLessEqual(abs(value), BIG ** 40)

    def test_calls(self):
        self.calls(worth, (PEOPLE, ("ann", 30), YOUNG))
        self.told(worth(expression=AGE, row=("ann", 30), columns=PEOPLE), 30)


class Names(Case):
    def test_names_in(self):
        self.told(names_in(ONE), ())
        self.told(names_in(("text", "who")), ())
        self.told(names_in(AGE), ("age",))
        self.told(names_in(("not", ("and", ("less", WHO, X), YOUNG))), ("age", "who"))
        self.told(names_in(("if", ("same", ("column", "c"), ("column", "b")), ("column", "a"), ("column", "c"))),
                  ("a", "b", "c"))

    def test_put_in(self):
        self.told(put_in(YOUNG, ()), YOUNG)
        self.told(put_in(YOUNG, (("age", TWICE),)), ("less", TWICE, ("number", 40)))
        self.told(put_in(YOUNG, (("who", X),)), YOUNG)
        self.told(put_in(AGE, (("age", ONE),)), ONE)
        self.told(put_in(("text", "age"), (("age", X),)), ("text", "age"))
        self.told(put_in(("if", ("same", WHO, X), WHO, ("text", "who")), (("who", ("text", "")),)),
                  ("if", ("same", ("text", ""), X), ("text", ""), ("text", "who")))

    def test_put_in_all_at_once(self):
        a, b = ("column", "a"), ("column", "b")
        self.told(put_in(("sub", a, b), (("a", b), ("b", a))), ("sub", b, a))
        self.told(put_in(("sub", a, b), (("b", a), ("a", b))), ("sub", b, a))
        self.told(put_in(("add", a, ("mul", b, a)), (("a", ("add", a, b)), ("b", ("add", a, a)))),
                  ("add", ("add", a, b), ("mul", ("add", a, a), ("add", a, b))))

    def test_put_in_may_make_more_parts_than_an_expression_has(self):
        grown = put_in(("and", ("less", AGE, ONE), ("less", AGE, ONE)), (("age", ("add", TWICE, TWICE)),))
        self.told(expression_error(PEOPLE, grown), None)
        deep = AGE
        for _ in range(19):
            deep = ("add", deep, AGE)
        grown = put_in(deep, (("age", deep),))
        self.told(expression_error(PEOPLE, grown), ("many", ()))
        self.told(worth(PEOPLE, ("", 3), grown), 1200)
        self.told(kind_of(PEOPLE, grown), "number")
        self.told(names_in(grown), ("age",))

    def test_worth_of_put_in(self):
        chance = random.Random(9)
        columns = (("a", "number"), ("b", "number"), ("c", "text"))
        for _ in range(500):
            expression = random_expression(chance, columns, chance.choice(("number", "text", "truth")), 3)
            row = random_rows(chance, columns, 1)[0]
            items = tuple([(name, random_expression(chance, columns, kind, 2))
                           for name, kind in columns if chance.random() < 0.6])
            other = tuple([worth(columns, row, dict(items)[name]) if name in dict(items) else value
                           for (name, _), value in zip(columns, row)])
            self.told(worth(columns, row, put_in(expression, items)), worth(columns, other, expression))
            elsewhere = tuple([value if name in names_in(expression) else 5 for (name, _), value in zip(columns, row)])
            self.told(worth(columns, elsewhere, expression), worth(columns, row, expression))

    def test_calls(self):
        self.calls(names_in, (YOUNG,))
        self.calls(put_in, (YOUNG, (("age", TWICE),)))
        self.told(put_in(items=(("age", ONE),), expression=AGE), ONE)
