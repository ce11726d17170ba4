"""Plans that become programs."""

import random

from makers import WORDS, random_node, random_plan, random_rows, random_tables
from support import Case
from unseentables.compiling import answered, ask, cell_limit, compiled, loaded, step_limit
from unseentables.errors import Over
from unseentables.meaning import meaning, tables_error
from unseentables.plans import plan_error, room_of, ways_of
from unseentables.programs import program_error, touches
from unseentables.running import memory_error, run

FOLK_COLUMNS, BUYS_COLUMNS = (("who", "text"), ("age", "number")), (("who", "text"), ("cost", "number"))
SHOP = (("folk", FOLK_COLUMNS, 5), ("buys", BUYS_COLUMNS, 3), ("none", FOLK_COLUMNS, 1))
FOLK, BUYS, NONE = ("table", "folk"), ("table", "buys"), ("table", "none")
WHO, AGE, COST = ("column", "who"), ("column", "age"), ("column", "cost")
WHO_WHO = (("who", "who"),)
BOTH = (("who", "who"), ("age", "cost"))
ITEMS = (("n", "count", None), ("s", "sum", "age"), ("l", "least", "age"), ("g", "greatest", "age"),
         ("f", "least", "who"), ("z", "greatest", "who"))
BOUGHT = ("give", (("buyer", WHO), ("cost", COST)), BUYS)
OLD, NAMED = ("less", ("number", 0), AGE), ("same", WHO, ("text", "a"))
EXAMPLE = (("t", (("a", "number"), ("b", "text")), 2), ("u", (("c", "number"),), 3))


def number_named(columns, name):
    return ("give", (("a", ("column", name)),), ("table", columns))


class TaskCase(Case):
    def right_form(self, catalog, plan):
        """The task of plan, which has the form that is told and stays within the limits."""
        self.told(plan_error(catalog, plan), None)
        task = compiled(catalog, plan)
        self.assertEqual([type(task), len(task)], [tuple, 4])
        program, starts, answer, over = task
        self.told(program_error(program), None)
        self.assertLessEqual(len(program[2]), step_limit(catalog, plan))
        self.assertLessEqual(program[0], cell_limit(catalog, plan))
        self.assertEqual([type(starts), type(answer), type(over)], [tuple, tuple, int])
        self.assertEqual([len(starts), len(answer)], [len(catalog), room_of(catalog, plan)])
        held = [cell for start, entry in zip(starts, catalog) for cell in range(start, start + entry[2])]
        for cells in (held, list(answer) + [over]):
            self.assertEqual({type(cell) for cell in cells}, {int})
            self.assertEqual(len(cells), len(set(cells)))
            self.assertTrue(0 <= min(cells) and max(cells) < program[0])
        return task

    def holds(self, catalog, tables, plan, task):
        """The program leaves what the meaning tells; returns whether that is over."""
        self.told(tables_error(catalog, tables), None)
        memory = loaded(catalog, tables, task)
        self.told(memory_error(task[0], memory), None)
        left = run(task[0], memory)
        try:
            rows = meaning(catalog, tables, plan)
        except Over:
            self.told(left[task[3]][0], 1)
            self.refuses(Over, {"way": ()}, answered, (task, left))
            return True
        self.told(left[task[3]][0], 0)
        records = [left[cell] for cell in task[2]]
        self.told(tuple([record for record in records if record[0] != 0]), tuple([(1,) + row for row in rows]))
        self.told({record[0] for record in records if record[0] != 1} | {0}, {0})
        self.told(answered(task, left), rows)
        return False

    def right(self, plan, catalog=SHOP, many=12, seed=71):
        """The task of plan is right for many tables; returns how often it is over."""
        chance = random.Random(seed)
        with self.subTest(str(plan)[:100]):
            task = self.right_form(catalog, plan)
            empty = tuple([(columns, ()) for _, columns, _ in catalog])
            full = tuple([(columns, random_rows(chance, columns, room)) for _, columns, room in catalog])
            alike = tuple([(columns, random_rows(chance, columns, 1) * room) for _, columns, room in catalog])
            told = [empty, full, alike] + [random_tables(chance, catalog) for _ in range(many)]
            return sum([self.holds(catalog, tables, plan, task) for tables in told])


class Words(TaskCase):
    def never_over(self, plan):
        self.told(self.right(plan), 0)

    def test_table(self):
        for plan in (FOLK, BUYS, NONE):
            self.never_over(plan)

    def test_where(self):
        for condition in (OLD, NAMED, ("not", OLD), ("and", OLD, NAMED), ("or", NAMED, ("same", AGE, ("number", 2))),
                          ("if", NAMED, OLD, ("not", OLD)), ("less", ("text", ""), WHO), ("same", AGE, AGE),
                          ("less", AGE, AGE), ("less", ("mul", AGE, AGE), ("add", AGE, ("number", 1)))):
            self.never_over(("where", condition, FOLK))
            self.never_over(("where", condition, NONE))

    def test_where_of_as_many_parts_as_can_be(self):
        sum_of_ages = AGE
        for _ in range(18):
            sum_of_ages = ("sub", ("number", 3), sum_of_ages)
        condition = ("less", sum_of_ages, ("number", 2))
        self.told(plan_error(SHOP, ("where", ("not", condition), FOLK)), None)
        self.told(plan_error(SHOP, ("where", ("not", ("not", condition)), FOLK)), ("expression", ()))
        self.never_over(("where", ("not", condition), FOLK))

    def test_give(self):
        for items in ((("a", WHO),), (("a", AGE), ("b", AGE)), (("who", AGE), ("age", WHO)), (("a", ("number", 5)),),
                      (("a", ("text", "x y")), ("b", ("mul", AGE, ("sub", AGE, ("number", 10 ** 12))))),
                      (("a", ("if", NAMED, WHO, ("text", "old"))), ("b", ("if", OLD, AGE, ("number", -1))))):
            self.never_over(("give", items, FOLK))
            self.never_over(("give", items, NONE))
            self.never_over(("give", items, ("where", OLD, FOLK)))

    def test_give_of_eight_items_of_many_parts(self):
        product = AGE
        for _ in range(19):
            product = ("mul", ("number", 7), product)
        self.never_over(("give", tuple([(name, product) for name in "abcdefgh"]), FOLK))

    def test_order(self):
        for keys in ((("who", "up"),), (("age", "down"),), (("age", "up"), ("who", "down")),
                     (("who", "down"), ("age", "down"))):
            self.never_over(("order", keys, FOLK))
            self.never_over(("order", keys, NONE))
            self.never_over(("order", keys, ("where", OLD, FOLK)))
        self.never_over(("order", (("age", "up"),), ("order", (("who", "down"),), FOLK)))
        self.never_over(("order", (("age", "up"),), ("numbered", "n", FOLK)))

    def test_first(self):
        for many in (1, 2, 4, 5, 6, 64):
            for plan in (FOLK, ("where", OLD, FOLK), NONE, ("order", (("who", "up"),), FOLK)):
                self.never_over(("first", many, plan))

    def test_keep(self):
        for many in (1, 2, 4):
            self.assertGreater(self.right(("keep", many, FOLK)), 0)
            self.right(("keep", many, ("where", OLD, FOLK)))
        for many in (5, 6, 64):
            self.never_over(("keep", many, FOLK))
        self.never_over(("keep", 1, NONE))

    def test_distinct(self):
        for plan in (FOLK, NONE, ("give", (("a", AGE),), FOLK), ("where", OLD, FOLK), ("append", FOLK, BUYS)):
            self.never_over(("distinct", plan))

    def test_group(self):
        for names in ((), ("who",), ("age",), ("age", "who"), ("who", "age")):
            for plan in (FOLK, NONE, ("where", NAMED, FOLK)):
                self.never_over(("group", names, ITEMS, plan))
                for item in ITEMS:
                    self.never_over(("group", names, (item,), plan))
                if names:
                    self.never_over(("group", names, (), plan))

    def test_numbered_and_running(self):
        for plan in (FOLK, NONE, ("where", OLD, FOLK), ("order", (("who", "down"),), FOLK)):
            self.never_over(("numbered", "n", plan))
            self.never_over(("running", "n", "age", plan))
            self.never_over(("running", "m", "n", ("running", "n", "age", plan)))

    def test_append_less_meet(self):
        few = ("where", OLD, FOLK)
        for word in ("append", "less", "meet"):
            for one in (FOLK, BUYS, NONE, few):
                for other in (FOLK, BUYS, few):
                    self.never_over((word, one, other))

    def test_join(self):
        overs = 0
        for ties, right in ((WHO_WHO, BUYS), (BOTH, BUYS), (BOTH[::-1], BUYS), ((("age", "cost"),), BOUGHT)):
            for many in (1, 2, 5, 14):
                overs += self.right(("join", ties, many, FOLK, right))
            for many in (15, 16, 64):
                self.never_over(("join", ties, many, FOLK, right))
        self.assertGreater(overs, 10)
        self.never_over(("join", BOTH, 1, ("give", (("who", WHO), ("age", AGE)), NONE), ("first", 1, BUYS)))

    def test_join_of_long_runs(self):
        chance = random.Random(72)
        plan = ("join", (("age", "cost"),), 15, FOLK, BOUGHT)
        task = self.right_form(SHOP, plan)
        for _ in range(60):
            ages = [chance.choice((0, 0, 1)) for _ in range(chance.randrange(6))]
            costs = [chance.choice((0, 1, 1, 2)) for _ in range(chance.randrange(4))]
            folk = tuple([("abcde"[place], age) for place, age in enumerate(ages)])
            buys = tuple([("xyz"[place], cost) for place, cost in enumerate(costs)])
            tables = ((FOLK_COLUMNS, folk), (BUYS_COLUMNS, buys), (FOLK_COLUMNS, ()))
            self.holds(SHOP, tables, plan, task)

    def test_join_of_runs_of_all_sizes(self):
        left, right = (("k", "number"), ("a", "text")), (("l", "number"), ("b", "text"))
        catalog = (("ta", left, 9), ("tb", right, 9))
        plan = ("join", (("k", "l"),), 40, ("table", "ta"), ("table", "tb"))
        task = self.right_form(catalog, plan)
        letters = "abcdefghi"
        overs = 0
        for lefts in range(10):
            for rights in range(10):
                for more in (0, 9 - lefts):
                    keys = [1] * lefts + [0] * more
                    one = tuple([(key, letter) for key, letter in zip(keys, letters)])
                    keys = [0] * min(2, 9 - rights) + [1] * rights
                    other = tuple([(key, letter) for key, letter in zip(keys, letters)])
                    overs += self.holds(catalog, ((left, one), (right, other)), plan, task)
        self.assertTrue(20 < overs < 150)

    def test_with_and_without(self):
        for word in ("with", "without"):
            for ties in (WHO_WHO, (("age", "cost"),), BOTH, (BOTH[1], BOTH[0])):
                for plan in (FOLK, NONE, ("order", (("age", "down"),), FOLK), ("where", NAMED, FOLK)):
                    self.never_over((word, ties, plan, BUYS))
                    self.never_over((word, ties, plan, ("where", ("less", ("number", 0), COST), BUYS)))

    def test_pairs(self):
        ages = ("give", (("a", AGE), ("b", WHO)), FOLK)
        for one in (ages, ("where", ("less", ("number", 0), ("column", "a")), ages), ("first", 1, ages)):
            self.never_over(("pairs", one, BUYS))
            self.never_over(("pairs", BUYS, one))

    def test_over_deep_within(self):
        keep, join = ("keep", 2, FOLK), ("join", WHO_WHO, 2, FOLK, BUYS)
        for plan in (("distinct", keep), ("append", BUYS, keep), ("less", keep, FOLK), ("first", 1, keep),
                     ("where", ("less", AGE, AGE), keep), ("without", WHO_WHO, keep, FOLK), ("keep", 1, keep),
                     ("group", (), ITEMS, join), ("give", (("a", ("number", 0)),), ("order", (("age", "up"),), join)),
                     ("keep", 64, join), ("append", keep, ("keep", 1, BUYS)), ("join", WHO_WHO, 64, BUYS, keep),
                     ("numbered", "n", ("first", 1, ("distinct", keep)))):
            with self.subTest(str(plan)[:100]):
                overs = self.right(plan, many=20)
                self.assertTrue(0 < overs < 23)

    def test_numbers_of_any_size(self):
        square = ("give", (("who", WHO), ("n", ("mul", AGE, AGE))), FOLK)
        big = 10 ** 12
        rows = (("a", big), ("b", -big), ("a", big - 1), ("c", 0), ("a", big))
        tables = ((FOLK_COLUMNS, rows), (BUYS_COLUMNS, (("a", 1),)), (FOLK_COLUMNS, ()))
        for plan in (square, ("order", (("n", "down"),), square), ("distinct", square),
                     ("group", ("who",), (("t", "sum", "n"), ("g", "greatest", "n")), square),
                     ("running", "r", "n", square), ("less", square, ("first", 1, square)),
                     ("join", WHO_WHO, 9, ("running", "r", "n", square), BUYS)):
            self.holds(SHOP, tables, plan, self.right_form(SHOP, plan))


class DrawnPlans(TaskCase):
    def drawn_catalog(self, chance):
        found = []
        for name in chance.sample(("ta", "tb", "tc", "td"), chance.randrange(1, 4)):
            names = chance.sample("abcdefgh", chance.randrange(1, 4))
            columns = tuple([(column, chance.choice(("number", "text"))) for column in names])
            found.append((name, columns, chance.choice((1, 2, 3, 4, 5, 7))))
        return tuple(found)

    def test_each_word_over_each_other_one(self):
        chance = random.Random(73)
        seen = {}
        for _ in range(2500):
            catalog = self.drawn_catalog(chance)
            below = [random_plan(chance, catalog, 1), random_plan(chance, catalog, chance.choice((0, 1)))]
            if chance.random() < 0.3:
                below[1] = below[0]
            node = random_node(chance, catalog, chance.choice(WORDS), below)
            if plan_error(catalog, node) is None:
                self.right(node, catalog, many=1, seed=chance.randrange(1000))
                seen[node[0], below[0][0]] = True
        self.assertEqual({word for word, _ in seen}, set(WORDS))
        self.assertGreater(len(seen), 200)

    def test_plans_of_two_to_four_nodes(self):
        chance = random.Random(74)
        overs, many = 0, 0
        while many < 500:
            catalog = self.drawn_catalog(chance)
            plan = random_plan(chance, catalog, 3)
            if 2 <= len(ways_of(plan)) <= 4:
                many += 1
                overs += self.right(plan, catalog, many=2, seed=many)
        self.assertGreater(overs, 20)

    def test_plans_of_many_nodes(self):
        chance = random.Random(75)
        many = 0
        while many < 40:
            catalog = self.drawn_catalog(chance)
            plan = random_plan(chance, catalog, 6)
            if len(ways_of(plan)) > 6:
                many += 1
                self.right(plan, catalog, many=2, seed=many)

    def test_eight_columns_and_great_rooms(self):
        left = tuple(zip("abcdefgh", ("number", "text") * 4))
        right = tuple(zip("ijklmnop", ("number", "text") * 4))
        catalog = (("ta", left, 32), ("tb", right, 29), ("tc", left, 32))
        one, other, third = ("table", "ta"), ("table", "tb"), ("table", "tc")
        ties = tuple(zip("abcdefgh", "ijklmnop"))
        part = ("give", (("x", ("column", "i")), ("y", ("column", "j"))), other)
        for plan in (("join", ties, 64, one, other), ("join", (("x", "a"), ("y", "b")), 64, part, one),
                     ("with", ties, one, other), ("without", ties[:2], ("append", one, third), other),
                     ("less", one, other), ("meet", ("append", one, third), ("append", third, other)),
                     ("order", tuple([(name, "down") for name in "hgfedcba"]), ("append", one, third)),
                     ("group", tuple("abcdefgh"), (), one), ("distinct", ("append", one, one)),
                     ("group", (), tuple([(2 * name, "greatest", name) for name in "abcdefgh"]), third),
                     ("keep", 31, ("first", 33, ("append", one, other)))):
            self.right(plan, catalog, many=3)

    def test_the_greatest_joins(self):
        columns = (("a", "number"), ("b", "text"))
        catalog = (("ta", columns, 32), ("tb", columns, 32))
        sides = ("append", ("table", "ta"), ("table", "ta")), ("append", ("table", "tb"), ("table", "tb"))
        plan = ("join", (("a", "a"), ("b", "b")), 64, *sides)
        task = self.right_form(catalog, plan)
        chance = random.Random(76)
        overs = 0
        for place in range(8):
            rows = tuple([(number, "x") for number in range(16)])
            left = rows if place < 4 else random_rows(chance, columns, place - 4)
            right = rows + rows[:place] if place < 4 else random_rows(chance, columns, 9)
            overs += self.holds(catalog, ((columns, left), (columns, right)), plan, task)
        self.assertTrue(0 < overs < 8)


class Shapes(TaskCase):
    def other_constants(self, chance, value):
        """value with other numbers and texts in its expressions."""
        if not isinstance(value, tuple):
            return value
        if len(value) == 2 and value[0] == "number":
            return ("number", chance.randrange(-10 ** 12, 10 ** 12 + 1))
        if len(value) == 2 and value[0] == "text":
            return ("text", chance.choice(("", "x", "a b c", "z" * 12)))
        return tuple([self.other_constants(chance, item) for item in value])

    def renamed(self, value):
        """value with other names of tables."""
        if not isinstance(value, tuple):
            return value
        if len(value) == 2 and value[0] == "table":
            return ("table", "x" + value[1])
        return tuple([self.renamed(item) for item in value])

    def drawn(self, seed, many):
        chance = random.Random(seed)
        for _ in range(many):
            yield chance, random_plan(chance, SHOP, 4)

    def test_constants_alone(self):
        changed = 0
        for chance, plan in self.drawn(77, 400):
            other = self.other_constants(chance, plan)
            changed += other != plan
            one, two = compiled(SHOP, plan), compiled(SHOP, other)
            self.told(two[1:], one[1:])
            self.told(touches(two[0]), touches(one[0]))
        self.assertGreater(changed, 80)

    def test_constants_told_by_hand(self):
        def plan(number, text):
            where = ("where", ("or", ("less", AGE, ("number", number)), ("same", WHO, ("text", text))), FOLK)
            return ("give", (("a", ("add", AGE, ("number", number))), ("b", ("text", text))), where)
        one = compiled(SHOP, plan(0, ""))
        for number, text in ((5, "a"), (-10 ** 12, "z" * 12), (1, "0")):
            other = compiled(SHOP, plan(number, text))
            self.told(other[1:], one[1:])
            self.told(touches(other[0]), touches(one[0]))
            self.assertNotEqual(other[0][1], one[0][1])

    def test_names_of_tables(self):
        catalog = tuple([("x" + name, columns, room) for name, columns, room in SHOP])
        for _, plan in self.drawn(78, 150):
            self.told(compiled(catalog, self.renamed(plan)), compiled(SHOP, plan))

    def test_tables_are_touched_alike_whatever_they_hold(self):
        touched = []

        class Watched(list):
            """A row of cells that writes down which ones are read."""

            def __getitem__(self, place):
                touched.append(place)
                return list.__getitem__(self, place)

        for chance, plan in self.drawn(79, 40):
            task = compiled(SHOP, plan)
            expected = [cell for pair in touches(task[0]) for cell in pair]
            for _ in range(2):
                cells = Watched(loaded(SHOP, random_tables(chance, SHOP), task))
                touched.clear()
                for one, other, place in task[0][2]:
                    step = run((2, task[0][1][place:place + 1], ((0, 1, 0),)), (cells[one], cells[other]))
                    cells[one:one + 1], cells[other:other + 1] = [step[0]], [step[1]]
                self.told(touched, expected)

    def test_tables_that_do_not_stand_in_the_plan(self):
        chance = random.Random(80)
        plan = ("order", (("cost", "up"),), BUYS)
        for _ in range(20):
            one, other = random_tables(chance, SHOP), random_tables(chance, SHOP)
            self.told(ask(SHOP, (other[0], one[1], other[2]), plan), ask(SHOP, one, plan))


class Limits(Case):
    def test_examples(self):
        whole, few = ("table", "t"), ("where", ("less", ("column", "a"), ("number", 3)), ("table", "t"))
        meet = ("join", (("a", "c"),), 4, ("table", "t"), ("table", "u"))
        self.told([step_limit(EXAMPLE, whole), cell_limit(EXAMPLE, whole)], [48, 21])
        self.told([step_limit(EXAMPLE, few), cell_limit(EXAMPLE, few)], [264, 45])
        self.told([step_limit(EXAMPLE, meet), cell_limit(EXAMPLE, meet)], [1560, 85])

    def test_sums_told_by_hand(self):
        # The tables: folk has s 5 and d 3, buys 3 and 2, none 1 and 0.
        self.told([step_limit(SHOP, plan) for plan in (FOLK, BUYS, NONE)], [6 * 5 * 16, 6 * 3 * 9, 6])
        self.told([cell_limit(SHOP, plan) for plan in (FOLK, BUYS, NONE)], [9 + 28, 9 + 20, 9 + 12])
        for plan, steps, cells in (
                (("distinct", FOLK), 480 + 6 * 10 * 25, 9 + 28 + 48),
                (("where", OLD, NONE), 6 + 6 * 2 * 4, 9 + 12 + 16),
                (("first", 2, FOLK), 480 + 6 * 7 * 16, 9 + 28 + 36),
                (("keep", 64, FOLK), 480 + 6 * 10 * 25, 9 + 28 + 48),
                (("append", FOLK, BUYS), 480 + 162 + 6 * 16 * 25, 9 + 28 + 20 + 72),
                (("less", NONE, FOLK), 6 + 480 + 6 * 7 * 16, 9 + 12 + 28 + 36),
                (("join", WHO_WHO, 9, FOLK, BUYS), 480 + 162 + 6 * 17 * 36, 9 + 28 + 20 + 76),
                (("join", WHO_WHO, 20, FOLK, BUYS), 480 + 162 + 6 * 23 * 36, 9 + 28 + 20 + 100),
                (("pairs", number_named("none", "who"), BUYS), 6 + 48 + 162 + 6 * 7 * 16, 9 + 12 + 16 + 20 + 36),
                (("distinct", ("numbered", "n", NONE)), 6 + 48 + 48, 9 + 12 + 16 + 16)):
            with self.subTest(str(plan)):
                self.told(plan_error(SHOP, plan), None)
                self.told(step_limit(SHOP, plan), steps)
                self.told(cell_limit(SHOP, plan), cells)

    def test_powers_of_two(self):
        for room, digits in ((1, 0), (2, 1), (3, 2), (4, 2), (5, 3), (8, 3), (9, 4), (16, 4), (17, 5), (32, 5)):
            catalog = (("t", (("a", "text"),), room),)
            self.told(step_limit(catalog, ("table", "t")), 6 * room * (digits + 1) ** 2)
            self.told(cell_limit(catalog, ("table", "t")), 5 * room + 8)

    def test_calls(self):
        for function in (step_limit, cell_limit, compiled):
            self.calls(function, (SHOP, ("join", WHO_WHO, 9, FOLK, BUYS)))
            self.told(function(plan=FOLK, catalog=SHOP), function(SHOP, FOLK))


class LoadedAndAnswered(Case):
    TASK = ((6, (), ()), (0, 2), (0, 1), 5)
    TABLES = ((EXAMPLE[0][1], ((5, "x"), (2, "y z"))), (EXAMPLE[1][1], ((2,),)))
    WHOLE = ("table", "t")

    def test_a_task_made_by_hand(self):
        memory = loaded(EXAMPLE, self.TABLES, self.TASK)
        self.told(memory, ((1, 5, "x"), (1, 2, "y z"), (1, 2), (0,), (0,), (0,)))
        self.told(answered(self.TASK, memory), ((5, "x"), (2, "y z")))
        self.told(answered(self.TASK[:2] + ((1, 0, 3), 5), memory), ((2, "y z"), (5, "x")))
        self.told(answered(self.TASK[:2] + ((), 4), memory), ())

    def test_other_starts(self):
        task = ((8, (), ()), (4, 0), (5, 4), 7)
        memory = loaded(EXAMPLE, self.TABLES, task)
        self.told(memory, ((1, 2), (0,), (0,), (0,), (1, 5, "x"), (1, 2, "y z"), (0,), (0,)))
        self.told(answered(task, memory), ((2, "y z"), (5, "x")))

    def test_empty_and_full_tables(self):
        empty = tuple([(columns, ()) for _, columns, _ in EXAMPLE])
        self.told(loaded(EXAMPLE, empty, self.TASK), ((0,),) * 6)
        full = (self.TABLES[0], (EXAMPLE[1][1], ((7,), (7,), (-8,))))
        self.told(loaded(EXAMPLE, full, self.TASK), ((1, 5, "x"), (1, 2, "y z"), (1, 7), (1, 7), (1, -8), (0,)))

    def test_over(self):
        memory = loaded(EXAMPLE, self.TABLES, self.TASK)
        self.refuses(Over, {"way": ()}, answered, (self.TASK, memory[:5] + ((1,),)))
        self.refuses(Over, {"way": ()}, answered, (self.TASK, memory[:5] + ((1, 0, "a"),)))
        self.told(answered(self.TASK, memory[:5] + ((0, 1),)), ((5, "x"), (2, "y z")))

    def test_gone_records_may_hold_whatever(self):
        memory = ((0, 1, "x"), (1,), (0, "a"), (1, "b", 3), (0,), (0,))
        self.told(answered(self.TASK[:2] + ((0, 3, 2, 1), 5), memory), (("b", 3), ()))

    def test_ask(self):
        few = ("where", ("less", ("column", "a"), ("number", 3)), self.WHOLE)
        meet = ("join", (("a", "c"),), 4, self.WHOLE, ("table", "u"))
        self.told(ask(EXAMPLE, self.TABLES, few), ((2, "y z"),))
        self.told(ask(EXAMPLE, self.TABLES, meet), ((2, "y z"),))
        self.told(ask(EXAMPLE, self.TABLES, ("distinct", ("give", (("b", ("column", "b")),), self.WHOLE))),
                  (("x",), ("y z",)))
        self.refuses(Over, {"way": ()}, ask, (EXAMPLE, self.TABLES, ("keep", 1, self.WHOLE)))
        self.refuses(Over, {"way": ()}, ask, (EXAMPLE, self.TABLES, ("distinct", ("first", 1, ("keep", 1, self.WHOLE)))))

    def test_ask_is_the_meaning(self):
        chance = random.Random(81)
        overs = 0
        for _ in range(400):
            plan, tables = random_plan(chance, SHOP, 4), random_tables(chance, SHOP)
            try:
                rows = meaning(SHOP, tables, plan)
            except Over:
                overs += 1
                self.refuses(Over, {"way": ()}, ask, (SHOP, tables, plan))
                continue
            self.told(self.calls(ask, (SHOP, tables, plan)), rows)
        self.assertGreater(overs, 3)

    def test_calls(self):
        memory = self.calls(loaded, (EXAMPLE, self.TABLES, self.TASK))
        self.calls(answered, (self.TASK, memory))
        self.told(loaded(task=self.TASK, tables=self.TABLES, catalog=EXAMPLE), memory)
        self.told(answered(memory=memory, task=self.TASK), ((5, "x"), (2, "y z")))
        self.told(ask(plan=self.WHOLE, tables=self.TABLES, catalog=EXAMPLE), ((5, "x"), (2, "y z")))
