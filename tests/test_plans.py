"""Catalogs and plans: their faults, their columns, rooms and ways."""

import random

from makers import random_plan
from support import Case, ODD, any_values
from unseentables.plans import catalog_error, columns_of, plan_error, room_of, ways_of

PEOPLE = (("who", "text"), ("age", "number"))
COSTS = (("who", "text"), ("cost", "number"))
SHOP = (("folk", PEOPLE, 4), ("buys", COSTS, 3), ("big", (("n", "number"),), 32),
        ("wide", tuple([(name, "number") for name in "abcdefgh"]), 2))
FOLK, BUYS, BIG, WIDE = ("table", "folk"), ("table", "buys"), ("table", "big"), ("table", "wide")
AGE, WHO, ONE = ("column", "age"), ("column", "who"), ("number", 1)
YOUNG = ("less", AGE, ("number", 40))
WHO_WHO = (("who", "who"),)
NAMED = ("give", (("who", WHO),), FOLK)
BUYERS = ("give", (("name", WHO), ("cost", ("column", "cost"))), BUYS)


def renamed(value, names):
    """value with other names for tables, wherever a table is named."""
    if isinstance(value, tuple) and len(value) == 2 and value[0] == "table":
        return ("table", names[value[1]])
    if isinstance(value, tuple):
        return tuple([renamed(item, names) for item in value])
    return value


class Catalogs(Case):
    def test_right_ones(self):
        for value in (SHOP, (), SHOP[:1], (("t", PEOPLE, 1),), (("t", PEOPLE, 32),),
                      tuple([(name, PEOPLE, 5) for name in "abcdef"])):
            self.told(catalog_error(value), None)

    def test_form(self):
        for value in (None, True, 0, "", "ab", [], {}, list(SHOP), tuple([(name, PEOPLE, 5) for name in "abcdefg"]),
                      (None,) * 7):
            self.told(catalog_error(value), "form")

    def test_table(self):
        for item in (None, "buys", (), ("t", PEOPLE), ("t", PEOPLE, 4, 4), ["t", PEOPLE, 4], ("T", PEOPLE, 4),
                     ("", PEOPLE, 4), ("sum", PEOPLE, 1), (5, PEOPLE, 4), (["t"], PEOPLE, 4), ("t", (), 4),
                     ("t", list(PEOPLE), 4), ("t", PEOPLE * 2, 4), ("t", None, 4), ("t", PEOPLE, 0),
                     ("t", PEOPLE, 33), ("t", PEOPLE, -1), ("t", PEOPLE, True), ("t", PEOPLE, None),
                     ("t", PEOPLE, "4"), ("t", PEOPLE, (4,))):
            self.told(catalog_error((item,)), ("table", 0))
            self.told(catalog_error(SHOP[:2] + (item, item)), ("table", 2))

    def test_twice(self):
        self.told(catalog_error(SHOP[:2] * 2), ("twice", 2))
        self.told(catalog_error(SHOP + (("wide", PEOPLE, 1),)), ("twice", 4))

    def test_two_faults(self):
        self.told(catalog_error(SHOP[:1] * 2 + (None,)), ("table", 2))
        self.told(catalog_error(SHOP * 2), "form")

    def test_any_value(self):
        for value in any_values(10, (SHOP, (), SHOP[:1]), 900):
            error = catalog_error(value)
            if error is not None and error != "form":
                self.assertIn(error[0], ("table", "twice"))
                self.assertTrue(0 <= error[1] < len(value))

    def test_calls(self):
        for value in (SHOP, None, SHOP[:1] * 2, (["t"],)):
            self.calls(catalog_error, (value,))


class PlanCase(Case):
    def error(self, value, error):
        with self.subTest(str(value)[:100]):
            self.told(plan_error(SHOP, value), error)

    def right(self, plan, columns, room):
        self.error(plan, None)
        self.told(columns_of(SHOP, plan), columns)
        self.told(room_of(SHOP, plan), room)


class RightPlans(PlanCase):
    def test_one_plan_beneath(self):
        self.right(FOLK, PEOPLE, 4)
        self.right(("where", YOUNG, FOLK), PEOPLE, 4)
        self.right(("give", (("a", AGE), ("b", WHO), ("c", ("add", AGE, ONE))), FOLK),
                   (("a", "number"), ("b", "text"), ("c", "number")), 4)
        self.right(("give", (("age", WHO), ("who", AGE)), FOLK), (("age", "text"), ("who", "number")), 4)
        self.right(("order", (("age", "down"), ("who", "up")), FOLK), PEOPLE, 4)
        self.right(("distinct", FOLK), PEOPLE, 4)
        self.right(("numbered", "place", FOLK), PEOPLE + (("place", "number"),), 4)
        self.right(("running", "so", "age", FOLK), PEOPLE + (("so", "number"),), 4)

    def test_many(self):
        for word in ("first", "keep"):
            for many, room in ((1, 1), (3, 3), (4, 4), (5, 4), (64, 4)):
                self.right((word, many, FOLK), PEOPLE, room)

    def test_group(self):
        self.right(("group", ("who",), (), FOLK), (("who", "text"),), 4)
        self.right(("group", (), (("n", "count", None),), FOLK), (("n", "number"),), 4)
        items = (("a", "sum", "age"), ("b", "least", "who"), ("c", "greatest", "who"), ("d", "least", "age"),
                 ("e", "greatest", "age"), ("f", "count", None))
        self.right(("group", ("age", "who"), items, FOLK),
                   (("age", "number"), ("who", "text"), ("a", "number"), ("b", "text"), ("c", "text"),
                    ("d", "number"), ("e", "number"), ("f", "number")), 4)
        self.right(("group", ("who",), (("age", "sum", "age"),), FOLK), (("who", "text"), ("age", "number")), 4)

    def test_two_plans_beneath(self):
        self.right(("append", FOLK, BUYS), PEOPLE, 7)
        self.right(("append", BUYS, FOLK), COSTS, 7)
        self.right(("append", BIG, BIG), (("n", "number"),), 64)
        self.right(("less", FOLK, BUYS), PEOPLE, 4)
        self.right(("meet", BUYS, FOLK), COSTS, 3)
        self.right(("with", WHO_WHO, FOLK, BUYS), PEOPLE, 4)
        self.right(("without", (("age", "cost"), ("who", "who")), BUYS[:1] + ("folk",), BUYS), PEOPLE, 4)
        self.right(("pairs", FOLK, BUYERS), PEOPLE + (("name", "text"), ("cost", "number")), 12)

    def test_join(self):
        self.right(("join", WHO_WHO, 6, FOLK, BUYS), PEOPLE + (("cost", "number"),), 6)
        self.right(("join", WHO_WHO, 64, FOLK, BUYS), PEOPLE + (("cost", "number"),), 12)
        self.right(("join", (("age", "cost"), ("who", "who")), 1, FOLK, BUYS), PEOPLE, 1)
        self.right(("join", (("n", "age"),), 64, BIG, FOLK), (("n", "number"), ("who", "text")), 64)
        self.right(("join", (("a", "n"),), 64, WIDE, BIG), SHOP[3][1], 64)

    def test_numbered_and_running_up_to_all_columns(self):
        six = ("give", tuple([(name, ONE) for name in "abcdef"]), FOLK)
        self.error(("numbered", "h", ("numbered", "g", six)), None)
        self.error(("numbered", "i", ("numbered", "h", ("numbered", "g", six))), ("columns", ()))
        self.error(("running", "h", "g", ("numbered", "g", six)), None)
        self.error(("running", "i", "a", WIDE), ("columns", ()))

    def test_ways(self):
        self.told(ways_of(FOLK), ((),))
        self.told(ways_of(("join", WHO_WHO, 6, ("first", 1, FOLK), BUYS)), ((0, 0), (0,), (1,), ()))
        for plan, many in ((("where", YOUNG, FOLK), 1), (("give", (("a", AGE),), FOLK), 1),
                           (("order", (("age", "up"),), FOLK), 1), (("first", 1, FOLK), 1), (("keep", 1, FOLK), 1),
                           (("distinct", FOLK), 1), (("group", ("who",), (), FOLK), 1), (("numbered", "n", FOLK), 1),
                           (("running", "n", "age", FOLK), 1), (("append", FOLK, FOLK), 2), (("less", FOLK, FOLK), 2),
                           (("meet", FOLK, FOLK), 2), (("join", WHO_WHO, 1, FOLK, BUYS), 2),
                           (("with", WHO_WHO, FOLK, BUYS), 2), (("without", WHO_WHO, FOLK, BUYS), 2),
                           (("pairs", FOLK, BUYERS), 2)):
            self.error(plan, None)
            self.told(ways_of(plan), ((0,), (1,))[:many] + ((),) if plan[-1] != BUYERS else ((0,), (1, 0), (1,), ()))


class PlanForms(PlanCase):
    def test_no_nodes(self):
        for value in (None, True, 5, "folk", "table", (), [], {}, [FOLK], (FOLK,), ("folk",), (["table"], "folk"),
                      ({}, "folk"), (None, "folk"), list(FOLK), ("tables", "folk"), ("Where", YOUNG, FOLK),
                      ("select", FOLK), ("column", "age"), ("add", ONE, ONE), ("unknown", YOUNG, FOLK)):
            self.error(value, ("form", ()))
            self.error(("distinct", value), ("form", (0,)))

    def test_an_item_more_or_less(self):
        for plan in (FOLK, ("where", YOUNG, FOLK), ("give", (("a", AGE),), FOLK), ("order", (("age", "up"),), FOLK),
                     ("first", 1, FOLK), ("keep", 1, FOLK), ("distinct", FOLK), ("group", ("who",), (), FOLK),
                     ("numbered", "n", FOLK), ("running", "n", "age", FOLK), ("append", FOLK, FOLK),
                     ("less", FOLK, FOLK), ("meet", FOLK, FOLK), ("join", WHO_WHO, 1, FOLK, BUYS),
                     ("with", WHO_WHO, FOLK, BUYS), ("without", WHO_WHO, FOLK, BUYS), ("pairs", FOLK, BUYERS)):
            self.error(plan, None)
            self.error(plan[:-1], ("form", ()))
            self.error(plan + (FOLK,), ("form", ()))
            self.error(list(plan), ("form", ()))
            self.error(("keep", 1, plan[:-1]), ("form", (0,)))

    def test_names_that_are_none(self):
        for name in ("from", "sum", "", "Age", "a1", "abcdefghi", None, 5, True, ("n",), ["n"], {}):
            self.error(("table", name), ("form", ()))
            self.error(("numbered", name, FOLK), ("form", ()))
            self.error(("running", name, "age", FOLK), ("form", ()))
            self.error(("running", "n", name, FOLK), ("form", ()))
            self.error(("give", (("a", AGE), (name, AGE)), FOLK), ("form", ()))
            self.error(("order", (("who", "up"), (name, "up")), FOLK), ("form", ()))
            self.error(("group", ("who", name), (), FOLK), ("form", ()))
            self.error(("group", (), ((name, "count", None),), FOLK), ("form", ()))
            if name is not None:
                self.error(("group", (), (("n", "sum", name),), FOLK), ("form", ()))
            for word in ("with", "without"):
                self.error((word, (("who", "who"), (name, "cost")), FOLK, BUYS), ("form", ()))
                self.error((word, (("who", "who"), ("age", name)), FOLK, BUYS), ("form", ()))
            self.error(("join", ((name, "who"),), 1, FOLK, BUYS), ("form", ()))
            self.error(("join", (("who", name),), 1, FOLK, BUYS), ("form", ()))

    def test_items_of_give(self):
        for items in (None, (), [], [("a", AGE)], ("a", AGE), (("a",),), (("a", AGE, AGE),), (["a", AGE],), "ab",
                      tuple([(name, AGE) for name in "abcdefghi"]), (("a", AGE), None), {"a": AGE}, 5):
            self.error(("give", items, FOLK), ("form", ()))
        self.error(("give", tuple([(name, AGE) for name in "abcdefgh"]), FOLK), None)

    def test_keys_of_order(self):
        for keys in (None, (), [], [("age", "up")], ("age", "up"), (("age",),), (("age", "up", "up"),), ("age",),
                     (["age", "up"],), (("age", "Up"),), (("age", None),), (("age", True),), (("age", ["up"]),),
                     (("up", "age"),), (("age", "up"),) * 9, (("age", ""),), 5):
            self.error(("order", keys, FOLK), ("form", ()))
        self.error(("order", tuple([(name, "down") for name in "abcdefgh"]), WIDE), None)

    def test_pairs_of_joins(self):
        for ties in (None, (), [], [("who", "who")], ("who", "who"), (("who",),), (("who", "who", "who"),),
                     (["who", "who"],), (("who", "who"),) * 9, (None,), {"who": "who"}, 5, "who"):
            self.error(("join", ties, 1, FOLK, BUYS), ("form", ()))
            self.error(("with", ties, FOLK, BUYS), ("form", ()))
            self.error(("without", ties, FOLK, BUYS), ("form", ()))

    def test_group(self):
        for names in (None, [], ["who"], "who", {}, 5, ("who",) * 9, (("who",),)):
            self.error(("group", names, (("n", "count", None),), FOLK), ("form", ()))
        for items in (None, [], [("n", "count", None)], ("n", "count", None), (("n", "count"),), 5, {}, (None,),
                      (["n", "count", None],), (("n", "count", None, None),), (("n", "count", "age"),),
                      (("n", "sum", None),), (("n", "least", None),), (("n", "greatest", None),),
                      (("n", "middle", "age"),), (("n", None, "age"),), (("n", ["sum"], "age"),), (("n", "Sum", "age"),),
                      tuple([(name, "count", None) for name in "abcdefghi"])):
            self.error(("group", ("who",), items, FOLK), ("form", ()))

    def test_what_is_no_matter_of_form(self):
        self.error(("where", None, FOLK), ("expression", ()))
        self.error(("give", (("a", None),), FOLK), ("expression", ()))
        self.error(("first", None, FOLK), ("many", ()))
        self.error(("join", WHO_WHO, None, FOLK, BUYS), ("many", ()))


class PlanFaults(PlanCase):
    def test_table(self):
        for name in ("town", "folks", "fol", "who", "table"):
            self.error(("table", name), ("table", ()))
        self.told(plan_error((), FOLK), ("table", ()))

    def test_names(self):
        self.error(("order", (("size", "up"),), FOLK), ("names", ()))
        self.error(("order", (("age", "up"), ("age", "down")), FOLK), ("names", ()))
        self.error(("group", ("size",), (), FOLK), ("names", ()))
        self.error(("group", ("age", "who", "age"), (), FOLK), ("names", ()))
        for word in ("sum", "least", "greatest"):
            self.error(("group", (), (("n", word, "size"),), FOLK), ("names", ()))
            self.error(("group", (), (("n", "count", None), ("m", word, "n")), FOLK), ("names", ()))
        self.error(("group", (), (("n", "sum", "age"), ("m", "sum", "age")), FOLK), None)
        self.error(("running", "so", "size", FOLK), ("names", ()))
        self.error(("running", "so", "so", FOLK), ("names", ()))

    def test_names_of_both_plans(self):
        for ties in ((("size", "who"),), (("who", "size"),), (("who", "age"),), (("cost", "cost"),),
                     (("who", "who"), ("who", "cost")), (("who", "who"), ("age", "who")),
                     (("who", "who"), ("who", "who"))):
            self.error(("join", ties, 5, FOLK, BUYS), ("names", ()))
            self.error(("with", ties, FOLK, BUYS), ("names", ()))
            self.error(("without", ties, FOLK, BUYS), ("names", ()))

    def test_expression(self):
        many = ("same", ONE, ONE)
        for _ in range(37):
            many = ("not", many)
        self.error(("where", many, FOLK), None)
        for value in (("not", many), None, True, 5, "age", ("column", "size"), ("column", "cost"), ("add", WHO, ONE),
                      ("not", ONE), [YOUNG], ("and", YOUNG), ("table", "folk"), FOLK, ("number", True)):
            self.error(("where", value, FOLK), ("expression", ()))
            self.error(("give", (("a", AGE), ("b", value)), FOLK), ("expression", ()))

    def test_kinds(self):
        self.error(("where", AGE, FOLK), ("kinds", ()))
        self.error(("where", WHO, FOLK), ("kinds", ()))
        self.error(("give", (("a", AGE), ("b", YOUNG)), FOLK), ("kinds", ()))
        self.error(("group", (), (("n", "sum", "who"),), FOLK), ("kinds", ()))
        self.error(("running", "so", "who", FOLK), ("kinds", ()))
        for word in ("append", "less", "meet"):
            self.error((word, FOLK, NAMED), ("kinds", ()))
            self.error((word, NAMED, FOLK), ("kinds", ()))
            self.error((word, FOLK, ("give", (("a", AGE), ("b", WHO)), FOLK)), ("kinds", ()))
            self.error((word, FOLK, ("give", (("a", WHO), ("b", ONE)), BUYS)), None)
        for ties in ((("who", "cost"),), (("age", "who"),), (("who", "who"), ("age", "cost"))):
            right = None if len(ties) == 2 else ("kinds", ())
            self.error(("join", ties, 5, FOLK, BUYS), right)
            self.error(("with", ties, FOLK, BUYS), right)
            self.error(("without", ties, FOLK, BUYS), right)

    def test_columns(self):
        self.error(("give", (("a", AGE), ("a", WHO)), FOLK), ("columns", ()))
        self.error(("group", (), (), FOLK), ("columns", ()))
        self.error(("group", ("age",), (("age", "count", None),), FOLK), ("columns", ()))
        self.error(("group", (), (("n", "count", None), ("n", "count", None)), FOLK), ("columns", ()))
        items = tuple([(name, "count", None) for name in "ijklmnop"])
        self.error(("group", (), items, WIDE), None)
        self.error(("group", ("a",), items[:7], WIDE), None)
        self.error(("group", ("a",), items, WIDE), ("columns", ()))
        self.error(("group", tuple("abcdefgh"), (), WIDE), None)
        self.error(("group", tuple("abcdefgh"), items[:1], WIDE), ("columns", ()))
        for name in ("who", "age"):
            self.error(("numbered", name, FOLK), ("columns", ()))
            self.error(("running", name, "age", FOLK), ("columns", ()))

    def test_columns_of_both_plans(self):
        self.error(("pairs", FOLK, BUYS), ("columns", ()))
        self.error(("pairs", FOLK, FOLK), ("columns", ()))
        self.error(("pairs", WIDE, BIG), ("columns", ()))
        six = ("give", tuple([(name, ONE) for name in "abcdef"]), FOLK)
        self.error(("pairs", six, FOLK), None)
        self.error(("pairs", six, ("numbered", "n", FOLK)), ("columns", ()))
        self.error(("join", (("age", "cost"),), 5, FOLK, BUYS), ("columns", ()))
        self.error(("join", (("a", "age"),), 5, WIDE, FOLK), ("columns", ()))
        self.error(("join", (("a", "n"),), 5, WIDE, BIG), None)
        self.error(("with", (("age", "cost"),), FOLK, BUYS), None)

    def test_many(self):
        for many in (0, 65, -1, True, False, None, "1", (1,), [1], 10 ** 399, FOLK):
            self.error(("first", many, FOLK), ("many", ()))
            self.error(("keep", many, FOLK), ("many", ()))
            self.error(("join", WHO_WHO, many, FOLK, BUYS), ("many", ()))
        for many in (1, 64):
            self.error(("first", many, FOLK), None)
            self.error(("keep", many, FOLK), None)
            self.error(("join", WHO_WHO, many, FOLK, BUYS), None)

    def test_room(self):
        one = ("give", (("m", ("column", "n")),), ("first", 2, BIG))
        self.error(("pairs", BIG, one), None)
        self.error(("pairs", BIG, ("give", (("m", ("column", "n")),), ("first", 3, BIG))), ("room", ()))
        self.error(("append", BIG, ("append", BIG, ("first", 1, BIG))), ("room", ()))
        self.error(("append", ("append", BIG, BIG), BIG), ("room", ()))
        self.error(("append", BIG, BIG), None)
        self.error(("append", ("append", BIG, ("first", 31, BIG)), ("first", 1, BIG)), None)
        self.error(("append", ("append", BIG, ("first", 31, BIG)), ("first", 2, BIG)), ("room", ()))
        self.error(("join", (("n", "n"),), 64, BIG, BIG), None)
        self.error(("distinct", ("pairs", BIG, ("give", (("m", ("column", "n")),), BIG))), ("room", (0,)))

    def test_the_first_of_two_faults(self):
        self.error(("order", (("size", "up"), ("age", "Up")), FOLK), ("form", ()))
        self.error(("give", (("a", None), ("a", YOUNG)), FOLK), ("expression", ()))
        self.error(("give", (("a", AGE), ("a", YOUNG)), FOLK), ("kinds", ()))
        self.error(("give", (("a", YOUNG), ("a", None)), FOLK), ("expression", ()))
        self.error(("give", (("a", YOUNG), ("sum", AGE)), FOLK), ("form", ()))
        self.error(("group", ("who", "who"), (("who", "sum", "who"),), FOLK), ("names", ()))
        self.error(("group", ("who",), (("who", "sum", "who"),), FOLK), ("kinds", ()))
        self.error(("group", ("who",), (("n", "sum", "who"), ("n", "sum", "size")), FOLK), ("names", ()))
        self.error(("running", "who", "who", FOLK), ("kinds", ()))
        self.error(("running", "who", "size", FOLK), ("names", ()))
        self.error(("join", (("who", "cost"), ("age", "cost")), 0, FOLK, BUYS), ("names", ()))
        self.error(("join", (("who", "cost"),), 0, FOLK, BUYS), ("kinds", ()))
        self.error(("join", (("age", "cost"),), 0, FOLK, BUYS), ("columns", ()))
        self.error(("pairs", BIG, BIG), ("columns", ()))
        self.error(("append", ("append", BIG, BIG), ("append", FOLK, BUYS)), ("kinds", ()))

    def test_order_of_nodes(self):
        self.error(("append", ("table", "town"), ("where", AGE, FOLK)), ("table", (0,)))
        self.error(("append", ("where", AGE, FOLK), ("table", "town")), ("kinds", (0,)))
        self.error(("append", FOLK, ("where", AGE, ("table", "town"))), ("table", (1, 0)))
        self.error(("append", ("distinct", ("first", 0, FOLK)), None), ("many", (0, 0)))
        self.error(("first", 0, ("keep", 0, ("table", "town"))), ("table", (0, 0)))
        self.error(("first", 0, ("keep", 0, FOLK)), ("many", (0,)))
        self.error(("join", (), 0, FOLK, ("numbered", "from", BUYS)), ("form", (1,)))
        self.error(("with", WHO_WHO, FOLK, ("pairs", BUYS, FOLK)), ("columns", (1,)))
        self.error(("join", WHO_WHO, 1, ("distinct", None), ("distinct", None)), ("form", (0, 0)))

    def test_nodes(self):
        plan = FOLK
        for _ in range(11):
            plan = ("distinct", plan)
        self.error(plan, None)
        self.error(("distinct", plan), ("nodes", ()))
        four = ("less", ("less", FOLK, FOLK), ("less", FOLK, FOLK))
        self.error(("less", four, ("less", FOLK, FOLK)), None)
        self.error(("less", four, ("less", FOLK, ("distinct", FOLK))), None)
        self.error(("less", four, ("distinct", ("less", FOLK, ("distinct", FOLK)))), ("nodes", ()))

    def test_nodes_ahead_of_all(self):
        plan = None
        for _ in range(11):
            plan = ("distinct", plan)
        self.error(plan, ("form", (0,) * 11))
        self.error(("first", 0, plan), ("nodes", ()))
        self.error(("append", plan, plan), ("nodes", ()))
        self.error(("append", plan), ("form", ()))
        self.error(("where", plan, FOLK), ("expression", ()))
        self.error([plan, plan], ("form", ()))

    def test_values_far_too_large(self):
        deep = FOLK
        for _ in range(30):
            deep = ("append", deep, deep)
        self.told(plan_error(SHOP, deep), ("nodes", ()))
        self.told(plan_error(SHOP, ("where", deep, FOLK)), ("expression", ()))

    def test_any_value(self):
        chance = random.Random(11)
        right = [random_plan(chance, SHOP, 3) for _ in range(60)]
        told = ("nodes", "form", "table", "names", "expression", "kinds", "columns", "many", "room")
        words = {}
        for value in any_values(12, right, 2500):
            error = plan_error(SHOP, value)
            if error is None:
                self.told(ways_of(value)[-1], ())
                continue
            self.assertIn(error[0], told)
            self.assertIsInstance(error[1], tuple)
            words[error[0]] = True
        self.assertLessEqual({"form", "names", "expression", "many"}, set(words))

    def test_calls(self):
        for value in (("where", YOUNG, FOLK), ODD[-2], ("join", WHO_WHO, True, FOLK, BUYS), ("table", ["folk"])):
            self.calls(plan_error, (SHOP, value))
        plan = ("join", WHO_WHO, 6, FOLK, BUYS)
        self.calls(columns_of, (SHOP, plan))
        self.calls(room_of, (SHOP, plan))
        self.calls(ways_of, (plan,))
        self.told(plan_error(value=plan, catalog=SHOP), None)


class PlanLaws(Case):
    def plans(self, seed):
        chance = random.Random(seed)
        for _ in range(250):
            yield random_plan(chance, SHOP, chance.randrange(5))

    def test_ways(self):
        for plan in self.plans(13):
            ways = ways_of(plan)
            self.assertEqual(len(set(ways)), len(ways))
            self.assertLessEqual(len(ways), 12)
            for place, way in enumerate(ways):
                for longer in ways[place + 1:]:
                    self.assertFalse(len(longer) > len(way) and longer[:len(way)] == way)
                self.assertIn(way[:-1], ways)

    def test_rooms_rise(self):
        for plan in self.plans(14):
            room = room_of(SHOP, plan)
            self.assertTrue(1 <= room <= 64)
            for place, (name, columns, its_room) in enumerate(SHOP):
                if its_room < 32:
                    wider = SHOP[:place] + ((name, columns, its_room + 1),) + SHOP[place + 1:]
                    error = plan_error(wider, plan)
                    if error is None:
                        self.assertGreaterEqual(room_of(wider, plan), room)
                    else:
                        self.assertEqual(error[0], "room")

    def test_other_tables_and_other_names_make_no_difference(self):
        names = {"folk": "buys", "buys": "x", "big": "folk", "wide": "y"}
        other = tuple([(names[name], columns, room) for name, columns, room in SHOP])[::-1] + (("z", PEOPLE, 1),)
        for plan in self.plans(15):
            again = renamed(plan, names)
            self.told(plan_error(other, again), None)
            self.told(columns_of(other, again), columns_of(SHOP, plan))
            self.told(room_of(other, again), room_of(SHOP, plan))
            self.told(ways_of(again), ways_of(plan))
