"""The plain meaning of plans."""

import random

from makers import random_plan, random_rows, random_tables, small_expression
from support import Case, any_values
from unseentables.errors import Over
from unseentables.expressions import worth
from unseentables.meaning import meaning, tables_error
from unseentables.plans import columns_of, plan_error, room_of, ways_of

PEOPLE = (("who", "text"), ("age", "number"))
COSTS = (("who", "text"), ("cost", "number"))
SHOP = (("folk", PEOPLE, 6), ("buys", COSTS, 5))
FOLK, BUYS = ("table", "folk"), ("table", "buys")
ROWS = (("cy", 30), ("bob", 17), ("ann", 30), ("cy", 30), ("bob", 20))
SOLD = (("ann", 5), ("cy", 2), ("ann", 1), ("eve", 9))
TABLES = ((PEOPLE, ROWS), (COSTS, SOLD))
EMPTY = ((PEOPLE, ()), (COSTS, ()))
WHO, AGE, ONE = ("column", "who"), ("column", "age"), ("number", 1)
WHO_WHO = (("who", "who"),)
BIG = 10 ** 12


class FittingTables(Case):
    def error(self, value, error):
        self.told(tables_error(SHOP, value), error)

    def test_right_ones(self):
        self.error(TABLES, None)
        self.error(EMPTY, None)
        self.error(((PEOPLE, ROWS[:1] * 6), (COSTS, SOLD[:1] * 5)), None)
        self.told(tables_error((), ()), None)

    def test_form(self):
        for value in (None, True, 2, "ab", (), [], {}, list(TABLES), TABLES[:1], TABLES + TABLES[:1]):
            self.error(value, "form")
        for value in (None, [], "", ((),)):
            self.told(tables_error((), value), "form")

    def test_table(self):
        for item in (None, 5, (), PEOPLE, [PEOPLE, ()], (PEOPLE,), (PEOPLE, []), (list(PEOPLE), ()), TABLES[1],
                     (PEOPLE[::-1], ()), (PEOPLE[:1], ()), (PEOPLE, ROWS[:1] * 7), (PEOPLE, (("Ann", 30),)),
                     (PEOPLE, (("ann", True),)), (PEOPLE, (["ann", 30],)), (PEOPLE, (("ann", BIG + 1),)),
                     ((("who", "text"), ("age", "text")), ()), ((("who", "text"), ("size", "number")), ())):
            self.error((item, TABLES[1]), ("table", 0))
        self.error((TABLES[0], (COSTS, SOLD[:1] * 6)), ("table", 1))
        self.error((TABLES[0], TABLES[0]), ("table", 1))
        self.error((None, None), ("table", 0))

    def test_any_value(self):
        for value in any_values(16, (TABLES, EMPTY, TABLES[:1]), 900):
            self.assertIn(tables_error(SHOP, value), (None, "form", ("table", 0), ("table", 1)))

    def test_calls(self):
        for value in (TABLES, None, list(TABLES), (TABLES[0], {})):
            self.calls(tables_error, (SHOP, value))
        self.told(tables_error(value=TABLES, catalog=SHOP), None)


class MeaningCase(Case):
    def means(self, plan, rows, tables=TABLES):
        with self.subTest(str(plan)[:100]):
            self.told(plan_error(SHOP, plan), None)
            self.told(meaning(SHOP, tables, plan), rows)

    def over(self, plan, way, tables=TABLES):
        with self.subTest(str(plan)[:100]):
            self.told(plan_error(SHOP, plan), None)
            self.refuses(Over, {"way": way}, meaning, (SHOP, tables, plan))


class Words(MeaningCase):
    def test_table(self):
        self.means(FOLK, ROWS)
        self.means(BUYS, SOLD)
        self.means(FOLK, (), EMPTY)

    def test_where(self):
        self.means(("where", ("less", ("number", 17), AGE), FOLK), (("cy", 30), ("ann", 30), ("cy", 30), ("bob", 20)))
        self.means(("where", ("same", WHO, ("text", "cy")), FOLK), (("cy", 30), ("cy", 30)))
        self.means(("where", ("less", AGE, ("number", -9)), FOLK), ())
        self.means(("where", ("same", ONE, ONE), FOLK), ROWS)

    def test_give(self):
        self.means(("give", (("a", ("mul", AGE, ("number", 2))), ("b", ("text", "x")), ("c", WHO)), FOLK),
                   ((60, "x", "cy"), (34, "x", "bob"), (60, "x", "ann"), (60, "x", "cy"), (40, "x", "bob")))
        self.means(("give", (("age", WHO), ("who", AGE)), ("first", 1, FOLK)), (("cy", 30),))

    def test_order(self):
        self.means(("order", (("age", "up"),), FOLK),
                   (("bob", 17), ("bob", 20), ("cy", 30), ("ann", 30), ("cy", 30)))
        self.means(("order", (("age", "down"),), FOLK),
                   (("cy", 30), ("ann", 30), ("cy", 30), ("bob", 20), ("bob", 17)))
        self.means(("order", (("who", "up"), ("age", "down")), FOLK),
                   (("ann", 30), ("bob", 20), ("bob", 17), ("cy", 30), ("cy", 30)))
        self.means(("order", (("who", "down"), ("age", "up")), FOLK),
                   (("cy", 30), ("cy", 30), ("bob", 17), ("bob", 20), ("ann", 30)))

    def test_order_is_stable(self):
        rows = (("a", 2), ("b", 1), ("c", 2), ("d", 1), ("e", 2), ("f", 1))
        tables = ((PEOPLE, rows), (COSTS, ()))
        self.means(("order", (("age", "up"),), FOLK), (rows[1], rows[3], rows[5], rows[0], rows[2], rows[4]), tables)
        self.means(("order", (("age", "down"),), FOLK), (rows[0], rows[2], rows[4], rows[1], rows[3], rows[5]), tables)

    def test_first_and_keep(self):
        for many in (1, 2, 4, 5, 64):
            self.means(("first", many, FOLK), ROWS[:many])
            if many < 5:
                self.over(("keep", many, FOLK), ())
            else:
                self.means(("keep", many, FOLK), ROWS)
            self.means(("keep", many, FOLK), (), EMPTY)

    def test_distinct(self):
        self.means(("distinct", FOLK), (("ann", 30), ("bob", 17), ("bob", 20), ("cy", 30)))
        self.means(("distinct", ("give", (("age", AGE),), FOLK)), ((17,), (20,), (30,)))

    def test_group(self):
        items = (("n", "count", None), ("s", "sum", "age"), ("l", "least", "age"), ("g", "greatest", "age"))
        self.means(("group", ("who",), items, FOLK),
                   (("ann", 1, 30, 30, 30), ("bob", 2, 37, 17, 20), ("cy", 2, 60, 30, 30)))
        self.means(("group", (), items, FOLK), ((5, 127, 17, 30),))
        self.means(("group", ("age", "who"), (), FOLK), ((17, "bob"), (20, "bob"), (30, "ann"), (30, "cy")))
        self.means(("group", ("age",), (("l", "least", "who"), ("g", "greatest", "who")), FOLK),
                   ((17, "bob", "bob"), (20, "bob", "bob"), (30, "ann", "cy")))
        self.means(("group", (), items, FOLK), (), EMPTY)
        self.means(("group", ("who",), items, FOLK), (), EMPTY)

    def test_numbered_and_running(self):
        self.means(("numbered", "n", FOLK), tuple([row + (place,) for place, row in enumerate(ROWS)]))
        self.means(("running", "so", "age", FOLK),
                   (("cy", 30, 30), ("bob", 17, 47), ("ann", 30, 77), ("cy", 30, 107), ("bob", 20, 127)))
        tables = ((PEOPLE, (("a", 3), ("b", -5), ("c", 0))), (COSTS, ()))
        self.means(("running", "so", "age", FOLK), (("a", 3, 3), ("b", -5, -2), ("c", 0, -2)), tables)

    def test_append_less_meet(self):
        self.means(("append", FOLK, BUYS), ROWS + SOLD)
        self.means(("append", BUYS, BUYS), SOLD + SOLD)
        cy = ("where", ("same", WHO, ("text", "cy")), FOLK)
        self.means(("less", FOLK, cy), (("ann", 30), ("bob", 17), ("bob", 20)))
        self.means(("less", cy, FOLK), ())
        self.means(("less", cy, BUYS), (("cy", 30),))
        self.means(("meet", FOLK, cy), (("cy", 30),))
        self.means(("meet", FOLK, FOLK), (("ann", 30), ("bob", 17), ("bob", 20), ("cy", 30)))
        self.means(("meet", FOLK, BUYS), ())

    def test_join(self):
        self.means(("join", WHO_WHO, 4, FOLK, BUYS), (("ann", 30, 5), ("ann", 30, 1), ("cy", 30, 2), ("cy", 30, 2)))
        self.means(("join", WHO_WHO, 4, BUYS, FOLK), (("ann", 5, 30), ("ann", 1, 30), ("cy", 2, 30), ("cy", 2, 30)))
        self.means(("join", (("who", "who"), ("age", "age")), 30, FOLK, FOLK),
                   (("ann", 30), ("bob", 17), ("bob", 20)) + (("cy", 30),) * 4)
        self.means(("join", WHO_WHO, 1, FOLK, BUYS), (), EMPTY)

    def test_join_comes_by_the_pairs_in_order(self):
        left = (("b", 1), ("a", 2), ("b", 0), ("a", 1))
        tables = ((PEOPLE, left), (COSTS, left))
        self.means(("join", (("age", "cost"), ("who", "who")), 9, FOLK, BUYS),
                   (("b", 0), ("a", 1), ("b", 1), ("a", 2)), tables)
        self.means(("join", (("who", "who"), ("age", "cost")), 9, FOLK, BUYS),
                   (("a", 1), ("a", 2), ("b", 0), ("b", 1)), tables)
        self.means(("join", WHO_WHO, 9, FOLK, BUYS),
                   (("a", 2, 2), ("a", 2, 1), ("a", 1, 2), ("a", 1, 1), ("b", 1, 1), ("b", 1, 0), ("b", 0, 1),
                    ("b", 0, 0)), tables)

    def test_with_and_without(self):
        self.means(("with", WHO_WHO, FOLK, BUYS), (("cy", 30), ("ann", 30), ("cy", 30)))
        self.means(("without", WHO_WHO, FOLK, BUYS), (("bob", 17), ("bob", 20)))
        self.means(("with", WHO_WHO, BUYS, FOLK), SOLD[:3])
        self.means(("without", WHO_WHO, BUYS, FOLK), SOLD[3:])
        self.means(("with", (("who", "who"), ("age", "cost")), FOLK, BUYS), ())
        self.means(("without", (("who", "who"), ("age", "cost")), FOLK, BUYS), ROWS)
        self.means(("without", WHO_WHO, FOLK, BUYS), ROWS, (TABLES[0], EMPTY[1]))

    def test_pairs(self):
        small = ("give", (("a", AGE),), ("first", 2, FOLK))
        self.means(("pairs", small, ("give", (("b", WHO),), ("first", 2, BUYS))),
                   ((30, "ann"), (30, "cy"), (17, "ann"), (17, "cy")))
        self.means(("pairs", small, ("give", (("b", WHO),), BUYS)), (), (TABLES[0], EMPTY[1]))

    def test_numbers_greater_than_tables_hold(self):
        tables = ((PEOPLE, (("a", BIG), ("b", BIG), ("c", -BIG))), (COSTS, ()))
        square = ("give", (("n", ("mul", AGE, AGE)), ("who", WHO)), FOLK)
        self.means(square, ((BIG ** 2, "a"), (BIG ** 2, "b"), (BIG ** 2, "c")), tables)
        self.means(("group", (), (("s", "sum", "n"), ("g", "greatest", "n")), square), ((3 * BIG ** 2, BIG ** 2),),
                   tables)
        self.means(("where", ("less", ("number", BIG), ("column", "n")), square),
                   ((BIG ** 2, "a"), (BIG ** 2, "b"), (BIG ** 2, "c")), tables)
        self.means(("running", "so", "n", square), tuple([(BIG ** 2, who, BIG ** 2 * (place + 1))
                                                          for place, who in enumerate("abc")]), tables)
        self.means(("order", (("m", "up"),), ("give", (("m", ("mul", AGE, ("mul", AGE, AGE))),), FOLK)),
                   ((-BIG ** 3,), (BIG ** 3,), (BIG ** 3,)), tables)

    def test_calls(self):
        plan = ("join", WHO_WHO, 4, FOLK, BUYS)
        self.calls(meaning, (SHOP, TABLES, plan))
        self.told(meaning(plan=FOLK, tables=TABLES, catalog=SHOP), ROWS)


class Overs(MeaningCase):
    def test_join(self):
        self.means(("join", WHO_WHO, 4, FOLK, BUYS), (("ann", 30, 5), ("ann", 30, 1), ("cy", 30, 2), ("cy", 30, 2)))
        self.over(("join", WHO_WHO, 3, FOLK, BUYS), ())
        self.over(("distinct", ("join", WHO_WHO, 3, FOLK, BUYS)), (0,))

    def test_first_node_in_order(self):
        self.over(("append", ("keep", 2, FOLK), ("keep", 1, FOLK)), (0,))
        self.over(("append", ("keep", 5, FOLK), ("keep", 4, FOLK)), (1,))
        self.over(("keep", 1, ("keep", 2, ("keep", 3, FOLK))), (0, 0))
        self.over(("keep", 1, ("keep", 2, ("keep", 5, FOLK))), (0,))
        self.over(("keep", 1, ("keep", 5, ("keep", 5, FOLK))), ())
        self.over(("less", FOLK, ("distinct", ("keep", 4, FOLK))), (1, 0))
        self.over(("join", WHO_WHO, 1, ("keep", 5, FOLK), ("keep", 1, BUYS)), (1,))
        self.over(("join", WHO_WHO, 1, ("keep", 5, FOLK), ("keep", 4, BUYS)), ())
        self.over(("with", WHO_WHO, ("join", WHO_WHO, 3, FOLK, BUYS), ("keep", 1, BUYS)), (0,))

    def test_what_is_over_beneath_first_is_over(self):
        self.over(("first", 1, ("keep", 4, FOLK)), (0,))
        self.means(("keep", 1, ("first", 1, FOLK)), ROWS[:1])
        self.means(("append", ("where", ("less", ONE, ONE), FOLK), ("keep", 4, BUYS)), SOLD)


class Laws(Case):
    def cases(self, seed, many=250, words=None):
        """Catalogs with tables, plans, and the rows that come of them, or None if they are over."""
        chance = random.Random(seed)
        for _ in range(many):
            tables = random_tables(chance, SHOP)
            plan = random_plan(chance, SHOP, chance.randrange(4), *([] if words is None else [words]))
            yield chance, tables, plan, self.rows_or_none(tables, plan)

    def rows_or_none(self, tables, plan):
        try:
            return meaning(SHOP, tables, plan)
        except Over as error:
            self.assertIn(error.way, ways_of(plan))
            return None

    def test_rows_have_the_columns_and_stay_within_the_room(self):
        for _, _, plan, rows in self.cases(20, 600):
            if rows is not None:
                columns = columns_of(SHOP, plan)
                self.assertIs(type(rows), tuple)
                self.assertLessEqual(len(rows), room_of(SHOP, plan))
                for row in rows:
                    self.assertEqual([type(value) for value in row],
                                     [int if kind == "number" else str for _, kind in columns])

    def test_where(self):
        for chance, tables, plan, rows in self.cases(21):
            e, f = [small_expression(chance, columns_of(SHOP, plan), "truth") for _ in range(2)]
            if rows is not None and plan_error(SHOP, ("where", ("and", f, e), plan)) is None:
                told = tuple([row for row in rows if worth(columns_of(SHOP, plan), row, e)])
                self.told(meaning(SHOP, tables, ("where", e, plan)), told)
                both = meaning(SHOP, tables, ("where", ("and", f, e), plan))
                self.told(self.rows_or_none(tables, ("where", f, ("where", e, plan))), both)

    def test_order_and_distinct(self):
        for chance, tables, plan, rows in self.cases(22):
            if rows is None:
                continue
            names = [name for name, _ in columns_of(SHOP, plan)]
            keys = tuple([(name, chance.choice(("up", "down"))) for name in names[:chance.randrange(len(names)) + 1]])
            once = meaning(SHOP, tables, ("order", keys, plan))
            self.told(self.rows_or_none(tables, ("order", keys, ("order", keys, plan))), once)
            self.told(sorted(once), sorted(rows))
            unlike = meaning(SHOP, tables, ("distinct", plan))
            self.told(unlike, tuple(sorted(set(rows))))
            self.told(meaning(SHOP, tables, ("distinct", ("distinct", plan))), unlike)

    def test_less_and_meet(self):
        for _, tables, plan, rows in self.cases(23):
            other = ("first", 2, plan)
            if rows is None:
                continue
            meet = self.rows_or_none(tables, ("meet", plan, other))
            unlike = self.rows_or_none(tables, ("distinct", plan))
            left = tuple([row for row in unlike if row not in meet])
            self.told(self.rows_or_none(tables, ("less", plan, other)), left)
            self.told(sorted(left + meet), list(unlike))

    def test_groups(self):
        for _, tables, plan, rows in self.cases(24):
            numbers = [name for name, kind in columns_of(SHOP, plan) if kind == "number"]
            if rows is None or not numbers:
                continue
            names = tuple([name for name, _ in columns_of(SHOP, plan)][:1])
            place = [name for name, _ in columns_of(SHOP, plan)].index(numbers[-1])
            group = meaning(SHOP, tables, ("group", names, (("x", "count", None), ("y", "sum", numbers[-1])), plan)) \
                if "x" not in names and "y" not in names else ()
            self.assertEqual(sum([row[-2] for row in group]), len(rows))
            self.assertEqual(sum([row[-1] for row in group]), sum([row[place] for row in rows]))
            self.assertEqual(sorted(set([row[:1] for row in rows])), [row[:1] for row in group])

    def test_join_with_and_without(self):
        for chance, tables, _, _ in self.cases(25):
            p, q = tables[0][1], tables[1][1]
            ties = chance.choice((WHO_WHO, (("age", "cost"),), (("age", "cost"), ("who", "who"))))
            places = {"who": 0, "age": 1, "cost": 1}
            met = [(row, other) for row in p for other in q
                   if all([row[places[left]] == other[places[right]] for left, right in ties])]
            self.told(meaning(SHOP, tables, ("with", ties, FOLK, BUYS)),
                      tuple([row for row in p if row in [pair[0] for pair in met]]))
            self.told(meaning(SHOP, tables, ("without", ties, FOLK, BUYS)),
                      tuple([row for row in p if row not in [pair[0] for pair in met]]))
            named = ("give", (("name", WHO), ("cost", ("column", "cost"))), BUYS)
            ties = tuple([(left, "name" if right == "who" else right) for left, right in ties])
            rights = [right for _, right in ties]
            met.sort(key=lambda pair: [pair[0][places[left]] for left, _ in ties])
            told = tuple([row + tuple([value for value, name in zip(other, ("name", "cost")) if name not in rights])
                          for row, other in met])
            self.told(meaning(SHOP, tables, ("join", ties, 64, FOLK, named)), told)
            for many in range(1, len(met) + 2):
                if many < len(met):
                    self.assertIsNone(self.rows_or_none(tables, ("join", ties, many, FOLK, named)))
                else:
                    self.told(self.rows_or_none(tables, ("join", ties, many, FOLK, named)), told)

    def test_numbered_running_and_first(self):
        for chance, tables, plan, rows in self.cases(26):
            names = [name for name, _ in columns_of(SHOP, plan)]
            if rows is None or len(names) > 7 or "x" in names:
                continue
            numbered = ("numbered", "x", plan)
            self.assertEqual([row[-1] for row in meaning(SHOP, tables, numbered)], list(range(len(rows))))
            many = chance.randrange(1, 9)
            first = meaning(SHOP, tables, ("first", many, plan))
            few = self.rows_or_none(tables, ("where", ("less", ("column", "x"), ("number", many)), numbered))
            self.told(tuple([row[:-1] for row in few]), first)
            kept = self.rows_or_none(tables, ("keep", many, plan))
            self.told(kept, first if len(rows) <= many else None)
            numbers = [name for name, kind in columns_of(SHOP, plan) if kind == "number"]
            if numbers and rows:
                running = meaning(SHOP, tables, ("running", "x", numbers[0], plan))
                summed = meaning(SHOP, tables, ("group", (), (("x", "sum", numbers[0]),), plan))
                self.assertEqual(running[-1][-1], summed[0][0])

    def test_order_of_table_rows_is_no_matter_to_some(self):
        words = ("where", "give", "order", "distinct", "group", "less", "meet", "join", "with", "without", "keep")
        for chance, tables, plan, rows in self.cases(27, 250, words):
            turned = tuple([(columns, tuple(chance.sample(some, len(some)))) for columns, some in tables])
            if rows is not None:
                self.told(self.rows_or_none(turned, ("distinct", plan)), tuple(sorted(set(rows))))
                for made in (("less", plan, FOLK), ("meet", plan, plan)):
                    if plan_error(SHOP, made) is None:
                        self.told(self.rows_or_none(turned, made), self.rows_or_none(tables, made))

    def test_a_row_more_never_makes_fewer(self):
        words = ("where", "give", "order", "keep", "distinct", "append", "meet", "join", "with", "pairs")
        for chance, tables, plan, rows in self.cases(28, 400, words):
            place = chance.randrange(2)
            columns, some = tables[place]
            if len(some) == SHOP[place][2]:
                continue
            grown = (columns, some + random_rows(chance, columns, 1))
            more = self.rows_or_none(tables[:place] + (grown,) + tables[place + 1:], plan)
            if rows is None:
                self.assertIsNone(more)
            elif more is not None:
                self.assertGreaterEqual(len(more), len(rows))
