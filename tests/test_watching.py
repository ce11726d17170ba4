"""Shapes of statements, and what somebody sees who watches the cells."""

import random

from makers import random_rows
from plainstores import PlainStore, random_row, random_script
from support import Case, any_values, changed
from unseentables.stores import Store
from unseentables.watching import apart, record_holds, shape, told_touches

FRUIT = (("name", "text"), ("many", "number"))
MAKE = ("make", "fruit", FRUIT, 2)
MANY, NAME = ("column", "many"), ("column", "name")
LOW, FIG = ("less", MANY, ("number", 3)), ("same", NAME, ("text", "fig"))
BARE_LOW, BARE_FIG = ("less", MANY, ("number", 0)), ("same", NAME, ("text", ""))
TABLE = ("table", "fruit")


def other_constants(chance, value):
    """An expression or a plan with other constants; value is in no other way changed."""
    if isinstance(value, tuple) and len(value) == 2 and value[0] == "number" and isinstance(value[1], int):
        return ("number", chance.choice((0, 1, 2, -3, 10 ** 12, -10 ** 12)))
    if isinstance(value, tuple) and len(value) == 2 and value[0] == "text" and value[1] not in ("number", "text"):
        return ("text", chance.choice(("", "a", "b", "zz 9")))
    if isinstance(value, tuple):
        return tuple([other_constants(chance, item) for item in value])
    return value


def other_script(chance, script):
    """Statements of the same shapes, with other rows and other constants."""
    plain, found = PlainStore(), []
    for statement in script:
        if statement[0] == "put":
            statement = statement[:2] + (random_row(chance, plain.columns(statement[1])),)
        elif statement[0] in ("strike", "change", "ask"):
            statement = statement[:1] + tuple([other_constants(chance, item) for item in statement[1:]])
        if plain.refusals(statement):
            return None
        plain.do(statement)
        found.append(statement)
    return tuple(found)


def touches_of(script):
    store = Store()
    for statement in script:
        store.do(statement)
    return store.touches


class Shapes(Case):
    def shows(self, statement, expected):
        with self.subTest(str(statement)[:100]):
            self.told(self.calls(shape, (statement,)), expected)
            self.told(shape(expected), expected)

    def test_each_statement(self):
        self.shows(MAKE, MAKE)
        self.shows(("drop", "fruit"), ("drop", "fruit"))
        self.shows(("put", "fruit", ("fig", 4)), ("put", "fruit", ("", 0)))
        self.shows(("put", "t", (1, -2, "x", "", 0, 10 ** 12)), ("put", "t", (0, 0, "", "", 0, 0)))
        self.shows(("strike", "fruit", LOW), ("strike", "fruit", BARE_LOW))
        self.shows(("change", "fruit", (("many", ("add", MANY, ("number", 1))), ("name", ("text", "x"))), FIG),
                   ("change", "fruit", (("many", ("add", MANY, ("number", 0))), ("name", ("text", ""))), BARE_FIG))
        self.shows(("ask", TABLE), ("ask", TABLE))
        self.shows(("mark",), ("mark",))
        self.shows(("back",), ("back",))

    def test_expressions(self):
        for expression, bare in (
                (MANY, MANY), (("number", 5), ("number", 0)), (("text", "x"), ("text", "")), (("not", LOW), ("not", BARE_LOW)),
                (("and", LOW, FIG), ("and", BARE_LOW, BARE_FIG)), (("or", FIG, ("not", LOW)), ("or", BARE_FIG, ("not", BARE_LOW))),
                (("if", LOW, ("number", 1), ("mul", MANY, ("number", 2))),
                 ("if", BARE_LOW, ("number", 0), ("mul", MANY, ("number", 0)))),
                (("sub", ("add", ("number", 1), MANY), ("number", -1)), ("sub", ("add", ("number", 0), MANY), ("number", 0)))):
            self.shows(("strike", "fruit", expression), ("strike", "fruit", bare))
            self.shows(("change", "fruit", (("many", expression),), LOW), ("change", "fruit", (("many", bare),), BARE_LOW))
            self.shows(("ask", ("give", (("a", expression),), TABLE)), ("ask", ("give", (("a", bare),), TABLE)))
            self.shows(("ask", ("where", expression, TABLE)), ("ask", ("where", bare, TABLE)))

    def test_plans(self):
        few, bare = ("where", LOW, TABLE), ("where", BARE_LOW, TABLE)
        for made in (lambda p: ("first", 5, p), lambda p: ("keep", 64, p), lambda p: ("distinct", p),
                     lambda p: ("order", (("many", "up"), ("name", "down")), p), lambda p: ("numbered", "number", p),
                     lambda p: ("group", ("name",), (("n", "count", None), ("s", "sum", "many")), p),
                     lambda p: ("running", "total", "many", p), lambda p: ("append", p, TABLE),
                     lambda p: ("append", TABLE, p), lambda p: ("less", p, p), lambda p: ("meet", p, TABLE),
                     lambda p: ("join", (("name", "name"),), 7, p, TABLE), lambda p: ("with", (("name", "name"),), TABLE, p),
                     lambda p: ("without", (("name", "name"),), p, p), lambda p: ("pairs", p, p)):
            self.shows(("ask", made(few)), ("ask", made(bare)))
            self.shows(("ask", made(made(few))), ("ask", made(made(bare))))

    def test_names_that_look_like_constants(self):
        self.shows(("make", "t", (("a", "number"), ("b", "text")), 5), ("make", "t", (("a", "number"), ("b", "text")), 5))
        self.shows(("change", "t", (("a", ("column", "b")), ("b", ("column", "a"))), ("same", ("column", "a"), ("column", "a"))),
                   ("change", "t", (("a", ("column", "b")), ("b", ("column", "a"))), ("same", ("column", "a"), ("column", "a"))))

    def test_drawn_statements(self):
        chance = random.Random(130)
        for _ in range(40):
            script = random_script(chance, 20, 4)
            shapes = tuple([shape(statement) for statement in script])
            plain = PlainStore()
            for statement, bare in zip(script, shapes):
                self.shows(statement, bare)
                self.told(plain.refusals(bare), [])
                plain.do(bare)

    def test_calls(self):
        self.told(shape(statement=("put", "fruit", ("fig", 4))), ("put", "fruit", ("", 0)))


class Touches(Case):
    def shapes(self, script):
        return tuple([shape(statement) for statement in script])

    def test_of_no_statement(self):
        self.told(self.calls(told_touches, ((),)), ())
        self.told(Store().touches, ())

    def test_each_statement(self):
        script = (MAKE, ("put", "fruit", ("fig", 4)), ("strike", "fruit", LOW), ("mark",),
                  ("change", "fruit", (("many", MANY),), FIG), ("ask", ("where", LOW, TABLE)), ("back",), ("drop", "fruit"))
        told = self.calls(told_touches, (self.shapes(script),))
        self.told(told, touches_of(script))
        self.told([len(pairs) > 0 for pairs in told], [False, True, True, True, True, True, True, False])
        for many in range(len(script) + 1):
            self.told(told_touches(self.shapes(script)[:many]), told[:many])

    def test_tables_full_and_empty(self):
        ask = ("ask", ("keep", 1, TABLE))
        end = (("change", "fruit", (("many", ("mul", MANY, ("number", 10 ** 12))),), LOW), ask)
        rows = (("fig", 4), ("pear", 2), ("plum", 1))
        for others in ((("", 0), ("", 0), ("", 0)), (("x", 5), ("y", -10 ** 12), ("z", 2)), rows[::-1]):
            for condition in (LOW, ("less", MANY, ("number", -10)), ("less", MANY, ("number", 100))):
                one = (MAKE,) + tuple([("put", "fruit", row) for row in rows]) + (("strike", "fruit", LOW),) + end
                other = (MAKE,) + tuple([("put", "fruit", row) for row in others]) + (("strike", "fruit", condition),) + end
                self.told(apart(one, other), None)
                self.told(touches_of(one), touches_of(other))
                self.told(touches_of(one), told_touches(self.shapes(one)))

    def test_drawn_scripts(self):
        chance = random.Random(131)
        unlike = 0
        for _ in range(60):
            script = random_script(chance, 25, 3)
            shapes, seen = self.shapes(script), touches_of(script)
            self.told(told_touches(shapes), seen)
            many = chance.randrange(26)
            self.told(told_touches(shapes[:many]), seen[:many])
            self.told(touches_of(shapes), seen)
            self.told(record_holds(shapes, seen), True)
            other = other_script(chance, script)
            if other is not None and other != script:
                unlike += 1
                self.told(apart(script, other), None)
                self.told(touches_of(other), seen)
        self.assertGreater(unlike, 30)

    def test_forty_statements(self):
        chance = random.Random(132)
        script = random_script(chance, 40, 2)
        self.told(told_touches(self.shapes(script)), touches_of(script))

    def test_calls(self):
        self.calls(told_touches, (self.shapes((MAKE, ("put", "fruit", ("fig", 4)))),))
        self.told(told_touches(shapes=(MAKE,)), ((),))


class Records(Case):
    SCRIPT = (MAKE, ("put", "fruit", ("", 0)), ("strike", "fruit", BARE_LOW), ("ask", ("first", 1, TABLE)))

    def holds(self, value, expected, shapes=SCRIPT):
        self.told(self.calls(record_holds, (shapes, value)), expected)

    def test_what_was_seen(self):
        seen = touches_of(self.SCRIPT)
        self.holds(seen, True)
        self.holds((), True, ())
        self.holds(seen, False, ())
        self.holds((), False)
        for many in range(len(seen)):
            self.holds(seen[:many], False)
            self.holds(seen[:many], True, self.SCRIPT[:many])
        self.holds(seen + ((),), False)
        self.holds(seen[1:], False)

    def test_a_pair_changed(self):
        seen = touches_of(self.SCRIPT)
        for place in (1, 2, 3):
            pairs = seen[place]
            for at in (0, len(pairs) // 2, len(pairs) - 1):
                one, other = pairs[at]
                for pair in ((other, one), (one, other + 1), (one,), (one, other, 0), [one, other], (str(one), other), (), None,
                             (one, None), (-one - 1, other)):
                    self.holds(seen[:place] + (pairs[:at] + (pair,) + pairs[at + 1:],) + seen[place + 1:], False)
            self.holds(seen[:place] + (pairs[:-1],) + seen[place + 1:], False)
            self.holds(seen[:place] + (pairs + pairs[-1:],) + seen[place + 1:], False)
            self.holds(seen[:place] + (list(pairs),) + seen[place + 1:], False)

    def test_true_is_not_1(self):
        seen = touches_of(self.SCRIPT)
        bools = tuple([tuple([tuple([bool(cell) if cell in (0, 1) else cell for cell in pair]) for pair in pairs])
                       for pairs in seen])
        self.told(bools, bools)
        self.assertEqual(bools, seen)
        self.holds(bools, False)
        for place, pairs in enumerate(seen):
            for at, (one, other) in enumerate(pairs):
                for wrong, right in ((True, 1), (False, 0)):
                    if right == one:
                        pair = (wrong, other)
                    elif right == other:
                        pair = (one, wrong)
                    else:
                        continue
                    self.holds(seen[:place] + (pairs[:at] + (pair,) + pairs[at + 1:],) + seen[place + 1:], False)

    def test_lists(self):
        seen = touches_of(self.SCRIPT)
        self.holds(list(seen), False)
        self.holds([list(pairs) for pairs in seen], False)
        self.holds(tuple([tuple([list(pair) for pair in pairs]) for pairs in seen]), False)
        self.holds([], False, ())

    def test_any_value(self):
        seen = touches_of(self.SCRIPT)
        chance = random.Random(133)
        values = any_values(134, (seen, (), ((),)), 150) + [changed(chance, seen) for _ in range(300)]
        for value in values:
            self.told(record_holds(self.SCRIPT, value), repr(value) == repr(seen))

    def test_calls(self):
        self.told(record_holds(value=(), shapes=()), True)


class Apart(Case):
    def test_apart(self):
        one = (MAKE, ("put", "fruit", ("fig", 4)), ("strike", "fruit", LOW), ("ask", ("first", 2, TABLE)), ("mark",))
        self.told(self.calls(apart, (one, one)), None)
        self.told(self.calls(apart, ((), ())), None)
        for many in range(len(one)):
            self.told(self.calls(apart, (one, one[:many])), many)
            self.told(self.calls(apart, (one[:many], one)), many)
            self.told(apart(one[:many], one[:many]), None)
        for place, others in ((0, (("make", "fruit", FRUIT, 3), ("make", "fruits", FRUIT, 2), ("make", "fruit", FRUIT[::-1], 2))),
                              (1, (("mark",), ("strike", "fruit", LOW))),
                              (2, (("strike", "fruit", FIG), ("strike", "fruit", ("not", LOW)), ("drop", "fruit"),
                                   ("strike", "fruit", ("less", ("number", 3), MANY)))),
                              (3, (("ask", ("first", 1, TABLE)), ("ask", ("keep", 2, TABLE)), ("ask", TABLE))),
                              (4, (("drop", "fruit"), ("ask", TABLE)))):
            for other in others:
                row = one[:place] + (other,) + one[place + 1:]
                self.told(self.calls(apart, (one, row)), place)
                self.told(self.calls(apart, (row, one)), place)
                self.told(apart(one[:place + 1], row), place)
        same = (MAKE, ("put", "fruit", ("", -1)), ("strike", "fruit", BARE_LOW), ("ask", ("first", 2, TABLE)), ("mark",))
        self.told(self.calls(apart, (one, same)), None)
        self.told(apart(one, same[:4]), 4)

    def test_the_least_place(self):
        one = (MAKE, ("put", "fruit", ("fig", 4)), ("mark",), ("back",))
        other = (MAKE, ("put", "fruit", ("", 0)), ("drop", "fruit"), ("mark",))
        self.told(apart(one, other), 2)
        self.told(apart(one, other[:2] + one[2:3]), 3)

    def test_drawn_scripts(self):
        chance = random.Random(135)
        for _ in range(100):
            one, other = random_script(chance, 6, 1, (2, 3)), random_script(chance, 6, 1, (2, 3))
            places = [place for place in range(6) if shape(one[place]) != shape(other[place])]
            self.told(apart(one, other), places[0] if places else None)
            found = other_script(chance, one)
            if found is not None:
                self.told(apart(one, found), None)

    def test_calls(self):
        self.told(apart(other=(), one=(MAKE,)), 0)
        self.told(len(random_rows(random.Random(1), FRUIT, 2)), 2)
