"""Plans explained, and cheaper plans."""

import random

from makers import random_plan, random_tables
from support import Case
from unseentables.cheaper import cheaper, explained
from unseentables.compiling import step_limit
from unseentables.errors import Over
from unseentables.expressions import expression_error, put_in
from unseentables.meaning import meaning
from unseentables.plans import columns_of, plan_error, room_of, ways_of

PEOPLE, PETS = (("who", "text"), ("age", "number")), (("owner", "text"), ("pet", "text"))
SHOP = (("people", PEOPLE, 4), ("pets", PETS, 3), ("one", PEOPLE, 1), ("full", PEOPLE, 32))
BASE, OWNED, SINGLE, FULL = ("table", "people"), ("table", "pets"), ("table", "one"), ("table", "full")
WHO, AGE = ("column", "who"), ("column", "age")
YOUNG, OLD = ("less", AGE, ("number", 40)), ("less", ("number", 20), AGE)
TIES = (("who", "owner"),)
BY_WHO, BY_AGE = (("who", "up"),), (("age", "down"),)
COUNTED = (("n", "count", None),)
GIVEN = (("who", WHO), ("more", ("add", AGE, ("number", 1))))
TWO = ("append", "less", "meet", "join", "with", "without", "pairs")


def sum_of(parts):
    """An expression of the kind number, of so many parts, an odd number."""
    found = AGE
    for _ in range(parts // 2):
        found = ("add", found, AGE)
    return found


def truth_of(parts):
    """An expression of the kind truth, of so many parts, 3 at least."""
    if parts % 2 == 0:
        return ("not", truth_of(parts - 1))
    return ("less", sum_of(parts - 2), ("number", 7))


def parts_of(expression):
    if expression[0] in ("column", "number", "text"):
        return 1
    return 1 + sum([parts_of(part) for part in expression[1:]])


def size_of(plan):
    return len(ways_of(plan))


class Explained(Case):
    def line(self, plan, word, room, steps, catalog=SHOP):
        """The first line of plan, and behind it those of the plans beneath, two blanks further in."""
        self.told(plan_error(catalog, plan), None)
        lines = self.calls(explained, (catalog, plan)).split("\n")
        self.told(lines[0], f"{word} {room} {steps}")
        self.told(lines[0], f"{plan[0]} {room_of(catalog, plan)} {step_limit(catalog, plan)}")
        below = () if word == "table" else plan[-2:] if word in TWO else plan[-1:]
        behind = "\n".join([explained(catalog, part) for part in below])
        self.told(lines[1:], ["  " + line for line in behind.split("\n")] if below else [])

    def test_each_word(self):
        self.line(BASE, "table", 4, 216)
        self.line(("where", YOUNG, BASE), "where", 4, 984)
        self.line(("give", GIVEN, BASE), "give", 4, 984)
        self.line(("order", BY_WHO, BASE), "order", 4, 984)
        self.line(("first", 2, BASE), "first", 2, 216 + 576)
        self.line(("keep", 3, BASE), "keep", 3, 216 + 6 * 7 * 16)
        self.line(("distinct", BASE), "distinct", 4, 984)
        self.line(("group", ("who",), COUNTED, BASE), "group", 4, 984)
        self.line(("numbered", "n", BASE), "numbered", 4, 984)
        self.line(("running", "n", "age", BASE), "running", 4, 984)
        self.line(("append", BASE, BASE), "append", 8, 2 * 216 + 6 * 16 * 25)
        self.line(("less", BASE, BASE), "less", 4, 2 * 216 + 6 * 12 * 25)
        self.line(("meet", BASE, BASE), "meet", 4, 2 * 216 + 6 * 12 * 25)
        self.line(("join", TIES, 5, BASE, OWNED), "join", 5, 2178)
        self.line(("with", TIES, BASE, OWNED), "with", 4, 216 + 162 + 6 * 11 * 25)
        self.line(("without", TIES, BASE, OWNED), "without", 4, 216 + 162 + 6 * 11 * 25)
        self.line(("pairs", BASE, OWNED), "pairs", 12, 216 + 162 + 6 * 19 * 36)

    def test_rooms_of_one_and_of_as_many_as_can_be(self):
        self.line(SINGLE, "table", 1, 6)
        self.line(("where", YOUNG, SINGLE), "where", 1, 6 + 6 * 2 * 4)
        self.line(FULL, "table", 32, 6 * 32 * 36)
        self.line(("append", FULL, FULL), "append", 64, 2 * 6912 + 6 * 128 * 64)
        self.line(("append", FULL, ("append", SINGLE, SINGLE)), "append", 34, 6912 + 12 + 6 * 4 * 9 + 6 * 68 * 64)

    def test_two_plans_beneath_at_several_depths(self):
        deep = ("first", 1, ("less", ("where", YOUNG, ("append", BASE, SINGLE)), ("with", TIES, BASE, OWNED)))
        words = [(0, "first 1"), (1, "less 5"), (2, "where 5"), (3, "append 5"), (4, "table 4"), (4, "table 1"),
                 (2, "with 4"), (3, "table 4"), (3, "table 3")]
        lines = explained(SHOP, deep).split("\n")
        self.told([line.rpartition(" ")[0] for line in lines], ["  " * depth + told for depth, told in words])
        self.told(lines[4], "        table 4 216")

    def test_a_line_for_each_node(self):
        chance = random.Random(91)
        for _ in range(200):
            plan = random_plan(chance, SHOP[:2], chance.randrange(5))
            lines = self.calls(explained, (SHOP, plan)).split("\n")
            self.told(len(lines), size_of(plan))
            depths = sorted([(len(line) - len(line.lstrip(" "))) // 2 for line in lines])
            self.told(depths, sorted([len(way) for way in ways_of(plan)]))


def shapes_at(catalog, node):
    """What stands behind each shape that stands at node, in the order in which the document tells them."""
    word, found = node[0], []
    straight = node[-1]
    if word == "where" and straight[0] == "where" and parts_of(node[1]) + parts_of(straight[1]) < 40:
        found.append(("where", ("and", straight[1], node[1]), straight[2]))
    if word in ("first", "keep") and straight[0] == word:
        found.append((word, min(node[1], straight[1]), straight[2]))
    if word in ("first", "keep") and node[1] >= room_of(catalog, straight):
        found.append(straight)
    if word == "give" and straight[0] == "give":
        items = tuple([(name, put_in(expression, straight[1])) for name, expression in node[1]])
        if max([parts_of(expression) for _, expression in items]) <= 40:
            found.append(("give", items, straight[2]))
    if word == "order" and straight[0] == "order":
        further = [key for key in straight[1] if key[0] not in dict(node[1])]
        found.append(("order", node[1] + tuple(further), straight[2]))
    for taken in ("order", "distinct"):
        for place in range(1, len(node)):
            fits = (word == "distinct" or word == "group" and place == 3 and taken == "order"
                    or word in ("less", "meet") or word in ("with", "without") and place == 3)
            if fits and node[place][:1] == (taken,):
                found.append(node[:place] + (node[place][-1],) + node[place + 1:])
    if word == "distinct" and straight[0] in ("group", "less", "meet"):
        found.append(straight)
    return found


def node_at(plan, way):
    for place in way:
        plan = plan[len(plan) - (2 if plan[0] in TWO else 1) + place]
    return plan


def with_node(plan, way, node):
    if not way:
        return node
    place = len(plan) - (2 if plan[0] in TWO else 1) + way[0]
    return plan[:place] + (with_node(plan[place], way[1:], node),) + plan[place + 1:]


def slow_cheaper(catalog, plan):
    """cheaper, as it is told: node by node in order, shape by shape."""
    for way in ways_of(plan):
        found = shapes_at(catalog, node_at(plan, way)) if node_at(plan, way)[0] != "table" else []
        if found:
            return slow_cheaper(catalog, with_node(plan, way, found[0]))
    return plan


class Cheaper(Case):
    def becomes(self, plan, expected, catalog=SHOP):
        with self.subTest(str(plan)[:100]):
            self.told(plan_error(catalog, plan), None)
            self.told(self.calls(cheaper, (catalog, plan)), expected)
            self.told(slow_cheaper(catalog, plan), expected)
            self.holds(catalog, plan, expected)

    def stays(self, plan):
        self.becomes(plan, plan)

    def holds(self, catalog, plan, other, seed=92):
        """other means the same as plan for many tables, and is no dearer."""
        self.told(plan_error(catalog, other), None)
        self.told(columns_of(catalog, other), columns_of(catalog, plan))
        self.assertLessEqual(step_limit(catalog, other), step_limit(catalog, plan))
        self.assertLessEqual(room_of(catalog, other), room_of(catalog, plan))
        self.told(cheaper(catalog, other), other)
        chance = random.Random(seed)
        for _ in range(6):
            tables = random_tables(chance, catalog)
            self.told(self.outcome(meaning, catalog, tables, other), self.outcome(meaning, catalog, tables, plan))

    def test_two_wheres(self):
        self.becomes(("where", OLD, ("where", YOUNG, BASE)), ("where", ("and", YOUNG, OLD), BASE))
        self.becomes(("where", OLD, ("where", YOUNG, ("where", ("not", OLD), BASE))),
                     ("where", ("and", ("and", ("not", OLD), YOUNG), OLD), BASE))
        self.stays(("where", OLD, ("numbered", "n", ("where", YOUNG, BASE))))

    def test_wheres_of_many_parts(self):
        for one, other in ((3, 36), (36, 3), (19, 20), (4, 35)):
            self.told([parts_of(truth_of(one)), parts_of(truth_of(other))], [one, other])
            self.becomes(("where", truth_of(one), ("where", truth_of(other), BASE)),
                         ("where", ("and", truth_of(other), truth_of(one)), BASE))
        for one, other in ((3, 37), (37, 3), (20, 20), (4, 36), (21, 20), (40, 3), (40, 40)):
            self.stays(("where", truth_of(one), ("where", truth_of(other), BASE)))

    def test_the_first_node_in_order_is_replaced_first(self):
        third = ("where", truth_of(15), BASE)
        self.becomes(("where", truth_of(17), ("where", truth_of(16), third)),
                     ("where", truth_of(17), ("where", ("and", truth_of(15), truth_of(16)), BASE)))
        wide = (("more", sum_of(9)),)
        doubled = (("age", ("add", AGE, AGE)),)
        more = ("give", (("age", ("add", ("column", "more"), ("column", "more"))),), ("give", wide, BASE))
        nine = put_in(("add", AGE, AGE), (("age", sum_of(9)),))
        self.told(parts_of(nine), 19)
        self.becomes(("give", doubled, more),
                     ("give", (("age", ("add", nine, nine)),), BASE))
        self.becomes(("give", doubled, ("give", doubled, more)),
                     ("give", doubled, ("give", (("age", ("add", nine, nine)),), BASE)))

    def test_limits_on_limits(self):
        for word in ("first", "keep"):
            for one, other in ((1, 2), (2, 1), (3, 3), (2, 64), (64, 2)):
                self.becomes((word, one, (word, other, BASE)), (word, min(one, other), BASE))
            self.becomes((word, 3, (word, 2, (word, 1, BASE))), (word, 1, BASE))
        self.becomes(("keep", 2, ("first", 3, BASE)), ("keep", 2, ("first", 3, BASE)))
        self.becomes(("keep", 3, ("first", 3, BASE)), ("first", 3, BASE))
        self.becomes(("first", 3, ("keep", 3, BASE)), ("keep", 3, BASE))
        self.becomes(("first", 3, ("keep", 2, BASE)), ("keep", 2, BASE))
        self.stays(("first", 2, ("keep", 3, BASE)))

    def test_limits_at_the_room_and_below_it(self):
        for word in ("first", "keep"):
            for many in (4, 5, 64):
                self.becomes((word, many, BASE), BASE)
                self.becomes(("distinct", (word, many, BASE)), ("distinct", BASE))
            for many in (1, 2, 3):
                self.stays((word, many, BASE))
            self.becomes((word, 1, SINGLE), SINGLE)
            self.becomes((word, 12, ("pairs", BASE, OWNED)), ("pairs", BASE, OWNED))
            self.stays((word, 11, ("pairs", BASE, OWNED)))
            self.becomes((word, 5, ("join", TIES, 5, BASE, OWNED)), ("join", TIES, 5, BASE, OWNED))
            self.stays((word, 4, ("join", TIES, 5, BASE, OWNED)))
            self.becomes((word, 64, (word, 63, FULL)), FULL)
            self.stays((word, 31, FULL))

    def test_two_gives(self):
        self.becomes(("give", (("a", ("column", "more")), ("b", WHO)), ("give", GIVEN, BASE)),
                     ("give", (("a", ("add", AGE, ("number", 1))), ("b", WHO)), BASE))
        swapped = (("who", AGE), ("age", WHO))
        self.becomes(("give", swapped, ("give", swapped, BASE)), ("give", (("who", WHO), ("age", AGE)), BASE))
        self.becomes(("give", (("n", ("number", 5)),), ("give", GIVEN, BASE)), ("give", (("n", ("number", 5)),), BASE))
        self.stays(("give", (("a", WHO),), ("distinct", ("give", GIVEN, BASE))))

    def test_gives_of_many_parts(self):
        inner = (("a", ("if", truth_of(3), sum_of(13), ("number", 0))),)
        below = ("give", inner, BASE)
        small = ("less", ("column", "a"), ("number", 1))
        just = ("if", small, ("column", "a"), ("number", 2))
        beyond = ("if", ("not", small), ("column", "a"), ("number", 2))
        self.told([parts_of(put_in(just, inner)), parts_of(put_in(beyond, inner))], [40, 41])
        self.becomes(("give", (("b", just),), below), ("give", (("b", put_in(just, inner)),), BASE))
        self.becomes(("give", (("b", just), ("c", ("column", "a"))), below),
                     ("give", (("b", put_in(just, inner)), ("c", inner[0][1])), BASE))
        self.stays(("give", (("b", beyond),), below))
        self.stays(("give", (("c", ("number", 0)), ("b", beyond)), below))
        self.stays(("give", (("b", beyond), ("c", ("number", 0))), below))

    def test_two_orders(self):
        self.becomes(("order", BY_WHO, ("order", BY_AGE + (("who", "down"),), BASE)), ("order", BY_WHO + BY_AGE, BASE))
        self.becomes(("order", BY_WHO, ("order", BY_AGE, BASE)), ("order", BY_WHO + BY_AGE, BASE))
        self.becomes(("order", BY_WHO + BY_AGE, ("order", (("age", "up"), ("who", "down")), BASE)),
                     ("order", BY_WHO + BY_AGE, BASE))
        self.becomes(("order", BY_WHO, ("order", BY_WHO, BASE)), ("order", BY_WHO, BASE))
        three = ("numbered", "n", BASE)
        self.becomes(("order", (("n", "down"),), ("order", BY_WHO, ("order", BY_AGE + (("who", "up"),), three))),
                     ("order", (("n", "down"),) + BY_WHO + BY_AGE, three))
        self.stays(("order", BY_WHO, ("where", YOUNG, ("order", BY_AGE, BASE))))

    def test_orders_of_no_use(self):
        ordered, other = ("order", BY_AGE, BASE), ("order", (("pet", "up"),), OWNED)
        self.becomes(("distinct", ordered), ("distinct", BASE))
        self.becomes(("group", ("who",), COUNTED, ordered), ("group", ("who",), COUNTED, BASE))
        self.becomes(("group", (), COUNTED, ordered), ("group", (), COUNTED, BASE))
        for word in ("less", "meet"):
            self.becomes((word, ordered, FULL), (word, BASE, FULL))
            self.becomes((word, FULL, ordered), (word, FULL, BASE))
            self.becomes((word, ordered, ("order", BY_WHO, FULL)), (word, BASE, FULL))
        for word in ("with", "without"):
            self.becomes((word, TIES, BASE, other), (word, TIES, BASE, OWNED))
            self.stays((word, TIES, ordered, OWNED))
            self.becomes((word, TIES, ordered, other), (word, TIES, ordered, OWNED))
        for plan in (("append", ordered, ordered), ("join", TIES, 5, ordered, other), ("pairs", ordered, other),
                     ("first", 2, ordered), ("keep", 2, ordered), ("numbered", "n", ordered),
                     ("running", "n", "age", ordered), ("where", YOUNG, ordered), ("give", GIVEN, ordered)):
            self.stays(plan)

    def test_distincts_of_no_use(self):
        unlike, other = ("distinct", BASE), ("distinct", OWNED)
        self.becomes(("distinct", unlike), unlike)
        self.becomes(("distinct", ("distinct", unlike)), unlike)
        for word in ("less", "meet"):
            self.becomes((word, unlike, FULL), (word, BASE, FULL))
            self.becomes((word, FULL, unlike), (word, FULL, BASE))
            self.becomes((word, unlike, ("distinct", FULL)), (word, BASE, FULL))
            self.becomes((word, ("order", BY_WHO, unlike), ("distinct", ("order", BY_WHO, FULL))), (word, BASE, FULL))
        for word in ("with", "without"):
            self.becomes((word, TIES, BASE, other), (word, TIES, BASE, OWNED))
            self.stays((word, TIES, unlike, OWNED))
        for plan in (("append", unlike, unlike), ("join", TIES, 5, unlike, other), ("pairs", unlike, other),
                     ("first", 2, unlike), ("keep", 2, unlike), ("group", ("who",), COUNTED, unlike),
                     ("order", BY_WHO, unlike), ("running", "n", "age", unlike), ("give", GIVEN, unlike)):
            self.stays(plan)

    def test_distincts_of_unlike_rows(self):
        for plan in (("group", ("who",), COUNTED, BASE), ("group", (), COUNTED, BASE), ("group", ("age",), (), BASE),
                     ("less", BASE, FULL), ("meet", BASE, FULL)):
            self.becomes(("distinct", plan), plan)
            key = columns_of(SHOP, plan)[0][0]
            self.becomes(("distinct", ("order", ((key, "up"),), plan)), plan)
            self.stays(("order", ((key, "up"),), plan))
        for plan in (("with", TIES, BASE, OWNED), ("append", BASE, FULL), ("where", YOUNG, BASE)):
            self.stays(("distinct", plan))

    def test_several_shapes_one_upon_another(self):
        self.becomes(("distinct", ("order", BY_AGE, ("distinct", BASE))), ("distinct", BASE))
        self.becomes(("less", ("order", BY_AGE, BASE), ("distinct", ("where", YOUNG, BASE))),
                     ("less", BASE, ("where", YOUNG, BASE)))
        self.becomes(("keep", 4, ("first", 9, BASE)), BASE)
        self.becomes(("where", OLD, ("keep", 9, ("where", YOUNG, BASE))), ("where", ("and", YOUNG, OLD), BASE))
        self.becomes(("order", BY_WHO, ("first", 9, ("order", BY_AGE, ("keep", 7, BASE)))),
                     ("order", BY_WHO + BY_AGE, BASE))
        self.becomes(("distinct", ("order", BY_WHO, ("keep", 40, ("less", ("distinct", ("order", BY_WHO, BASE)), FULL)))),
                     ("less", BASE, FULL))
        self.becomes(("with", TIES, ("first", 4, BASE), ("order", (("pet", "up"),), ("distinct", OWNED))),
                     ("with", TIES, BASE, OWNED))
        self.becomes(("meet", ("distinct", ("group", ("who", "age"), (), BASE)), ("order", BY_AGE, ("keep", 4, BASE))),
                     ("meet", ("group", ("who", "age"), (), BASE), BASE))

    def test_shapes_beneath_two_plans(self):
        few = ("where", OLD, ("where", YOUNG, BASE))
        fewer = ("where", ("and", YOUNG, OLD), BASE)
        for word in ("append", "less", "meet"):
            self.becomes((word, few, few), (word, fewer, fewer))
        self.becomes(("join", TIES, 5, few, ("keep", 3, OWNED)), ("join", TIES, 5, fewer, OWNED))
        self.becomes(("pairs", ("first", 4, few), ("distinct", ("distinct", OWNED))),
                     ("pairs", fewer, ("distinct", OWNED)))

    def test_plans_without_any_shape(self):
        for plan in (BASE, OWNED, ("where", YOUNG, BASE), ("distinct", BASE), ("order", BY_WHO, BASE),
                     ("give", GIVEN, BASE), ("group", ("who",), COUNTED, BASE), ("append", BASE, BASE),
                     ("where", YOUNG, ("give", GIVEN[:1] + (("age", AGE),), BASE)),
                     ("join", TIES, 64, BASE, OWNED), ("numbered", "n", ("numbered", "m", BASE)),
                     ("running", "n", "age", BASE), ("distinct", ("append", BASE, BASE)), ("pairs", BASE, OWNED),
                     ("give", GIVEN, ("where", YOUNG, BASE)), ("distinct", ("with", TIES, BASE, OWNED))):
            self.stays(plan)

    def test_over_by_both(self):
        full = ((PEOPLE, (("a", 1),) * 4), (PETS, (("a", "x"),) * 3), (PEOPLE, ()), (PEOPLE, ()))
        for plan in (("keep", 3, ("keep", 2, BASE)), ("keep", 2, ("keep", 3, BASE)), ("distinct", ("keep", 3, BASE)),
                     ("less", ("order", BY_WHO, ("keep", 1, BASE)), FULL),
                     ("first", 11, ("join", TIES, 11, BASE, OWNED))):
            self.assertRaises(Over, meaning, SHOP, full, plan)
            self.assertRaises(Over, meaning, SHOP, full, cheaper(SHOP, plan))
        for plan in (("keep", 4, BASE), ("keep", 12, ("join", TIES, 12, BASE, OWNED))):
            self.told(meaning(SHOP, full, plan), meaning(SHOP, full, cheaper(SHOP, plan)))

    def test_drawn_plans(self):
        chance = random.Random(93)
        words = ("where", "give", "order", "first", "keep", "distinct", "group", "less", "meet", "with", "without",
                 "append", "join")
        lessened = 0
        for _ in range(700):
            plan = random_plan(chance, SHOP[:2], chance.randrange(1, 7), words)
            found = cheaper(SHOP[:2], plan)
            self.told(found, slow_cheaper(SHOP[:2], plan))
            self.holds(SHOP[:2], plan, found)
            lessened += size_of(found) < size_of(plan)
            self.assertLessEqual(size_of(found), size_of(plan))
        self.assertGreater(lessened, 200)

    def test_no_expression_grows_too_long(self):
        chance = random.Random(94)
        for _ in range(100):
            plan = BASE
            for _ in range(10):
                condition = truth_of(chance.randrange(3, 30))
                items = (("who", WHO), ("age", sum_of(chance.choice((3, 5, 9, 19)))))
                plan = chance.choice((("where", condition, plan), ("give", items, plan)))
            found = cheaper(SHOP, plan)
            self.told(plan_error(SHOP, found), None)
            self.told(found, slow_cheaper(SHOP, plan))
            self.assertIsNone(expression_error(PEOPLE, found[1]) if found[0] == "where" else None)

    def test_calls(self):
        self.told(cheaper(plan=("keep", 9, BASE), catalog=SHOP), BASE)
        self.told(explained(plan=BASE, catalog=SHOP), "table 4 216")
