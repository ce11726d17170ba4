"""Stores and their statements."""

import random

from makers import random_plan
from plainstores import PlainStore, random_row, random_script
from support import Case, any_values
from unseentables.compiling import cell_limit, step_limit
from unseentables.errors import (
    BadPlan, BadQuestion, BadTable, Full, NoMark, NoName, Taken, TooMany, Unfit, UnseenError)
from unseentables.meaning import tables_error
from unseentables.plans import catalog_error, plan_error
from unseentables.programs import program_error, touches
from unseentables.running import memory_error, run
from unseentables.statements import statement_text
from unseentables.stores import Store
from unseentables.tables import row_error

FRUIT = (("name", "text"), ("many", "number"))
EIGHT = tuple([(name, ("number", "text")[place % 2]) for place, name in enumerate("abcdefgh")])
MAKE = ("make", "fruit", FRUIT, 3)
MANY, NAME = ("column", "many"), ("column", "name")
ALL, LOW, FIG = ("same", MANY, MANY), ("less", MANY, ("number", 3)), ("same", NAME, ("text", "fig"))
TABLE = ("table", "fruit")
DONE = ("done",)


def attributes(store):
    return (store.catalog, store.tables, store.log, store.memory, store.starts, store.programs, store.touches,
            store.results)


def digits(many):
    found = 0
    while 2 ** found < many:
        found += 1
    return found


class StoreCase(Case):
    def begun(self, *statements):
        """A store and a plain one that have done these."""
        store, plain = Store(), PlainStore()
        for statement in statements:
            self.does(store, plain, statement)
        return store, plain

    def does(self, store, plain, statement, said=False):
        """Both do statement alike; the answer."""
        before = attributes(store)
        kept = plain.kept
        self.told(plain.refusals(statement), [])
        expected = plain.do(statement)
        if said:
            answer = store.say(statement_text(before[0], statement))
        else:
            answer = store.do(statement)
        self.told(answer, expected)
        self.told(store.catalog, plain.catalog())
        self.told(store.tables, plain.tables())
        self.told(catalog_error(store.catalog), None)
        self.told(tables_error(store.catalog, store.tables), None)
        self.told(store.log, before[2] + (statement,))
        for place in (5, 6, 7):
            self.told(attributes(store)[place][:-1], before[place])
        self.memory_holds(store, statement, before, kept)
        self.rows_lie(store)
        self.result_holds(store, statement, answer, before)
        self.stays_within(store, statement, before, kept)
        return answer

    def memory_holds(self, store, statement, before, kept):
        """The memory behind statement is what its program leaves, cut as told."""
        memory, starts = before[3], before[4]
        program = store.programs[-1]
        self.told(program_error(program), None)
        self.assertGreaterEqual(program[0], len(store.memory))
        loaded = memory + ((0,),) * (program[0] - len(memory))
        self.told(memory_error(program, loaded), None)
        self.told(run(program, loaded)[:len(store.memory)], store.memory)
        self.told(store.touches[-1], touches(program))
        rooms = [room for _, _, room in before[0]]
        if statement[0] == "make":
            self.told((len(store.memory), store.starts), (len(memory) + statement[3], starts + (len(memory),)))
        elif statement[0] == "mark":
            self.told((len(store.memory), store.starts), (len(memory) + sum(rooms), starts))
            self.copied(store, before, starts, rooms, len(memory))
        elif statement[0] == "back":
            rooms = [room for _, _, room in kept[0]]
            begins = tuple([len(memory) + sum(rooms[:place]) for place in range(len(rooms))])
            self.told((len(store.memory), store.starts), (len(memory) + sum(rooms), begins))
        else:
            self.told(len(store.memory), len(memory))
        if statement[0] == "drop":
            place = [name for name, _, _ in before[0]].index(statement[1])
            self.told(store.starts, starts[:place] + starts[place + 1:])
        if statement[0] in ("ask", "drop"):
            self.told(store.memory, memory)
        if statement[0] in ("put", "strike", "change", "ask"):
            self.told(store.starts, starts)

    def copied(self, store, before, starts, rooms, end):
        """From end on the memory holds what the tables' cells hold."""
        for start, room in zip(starts, rooms):
            self.told(store.memory[end:end + room], before[3][start:start + room])
            end += room

    def rows_lie(self, store):
        """The tables lie in the memory as told."""
        self.told(len(store.starts), len(store.catalog))
        for (_, columns, room), start, table in zip(store.catalog, store.starts, store.tables):
            records = store.memory[start:start + room]
            self.told(len(records), room)
            self.assertLessEqual({record[0] for record in records}, {0, 1})
            here = tuple([record for record in records if record[0] == 1])
            self.told(here, tuple([(1,) + row for row in table[1]]))
            self.told(table[0], columns)

    def result_holds(self, store, statement, answer, before):
        """The answer stands where the item of results tells."""
        result, program = store.results[-1], store.programs[-1]
        word = statement[0]
        if word not in ("put", "strike", "change", "ask"):
            self.told(result, None)
            self.told(answer, DONE)
            return
        found, flag = result
        self.assertIs(type(found), tuple)
        cells = list(found) + [flag]
        self.assertTrue(all([type(cell) is int and 0 <= cell < program[0] for cell in cells]))
        left = run(program, before[3] + ((0,),) * (program[0] - len(before[3])))
        self.told(left[flag][0], 1 if answer in (("full",), ("over",)) else 0)
        if word == "put":
            self.told(found, ())
        elif word in ("strike", "change"):
            self.told(len(found), 1)
            if answer != ("over",):
                self.told(answer, ("count", left[found[0]][0]))
        elif answer != ("over",):
            self.told(answer[2], tuple([left[cell][1:] for cell in found if left[cell][0] == 1]))

    def stays_within(self, store, statement, before, kept):
        """The bounds of cells and steps."""
        word, (cells, _, steps) = statement[0], store.programs[-1]
        rooms = dict([(name, room) for name, _, room in before[0]])
        every = sum(rooms.values()) if word != "back" else sum([room for _, _, room in kept[0]])
        most = len(store.memory) + 64
        if word == "ask":
            most += cell_limit(before[0], statement[1])
        self.assertLessEqual(cells, most)
        if word in ("make", "drop"):
            limit = 0
        elif word in ("mark", "back"):
            limit = 2 * every
        elif word == "ask":
            limit = step_limit(before[0], statement[1]) + 8 * every + 8
        else:
            room = rooms[statement[1]]
            limit = 8 * room + 8 if word == "put" else 60 * room * (digits(room) + 1) ** 2 + 60
        self.assertLessEqual(len(steps), limit)

    def refused(self, store, error, fields, statement):
        """statement is refused so, and leaves all as it was."""
        before = attributes(store)
        with self.subTest(str(statement)[:100]):
            self.refuses(error, fields, store.do, (statement,))
            self.told(attributes(store), before)


class Statements(StoreCase):
    def test_a_new_store(self):
        self.told(attributes(Store()), ((), (), (), (), (), (), (), ()))

    def test_make_and_drop(self):
        store, plain = self.begun(MAKE, ("make", "nuts", EIGHT, 32), ("make", "one", FRUIT[:1], 1))
        self.told((store.starts, len(store.memory)), ((0, 3, 35), 36))
        self.told(store.memory, ((0,),) * 36)
        self.told(self.does(store, plain, ("drop", "nuts")), DONE)
        self.told((store.starts, len(store.memory)), ((0, 35), 36))
        self.told(self.does(store, plain, ("make", "nuts", FRUIT, 2)), DONE)
        self.told([name for name, _, _ in store.catalog], ["fruit", "one", "nuts"])
        for name in ("fruit", "one", "nuts"):
            self.told(self.does(store, plain, ("drop", name)), DONE)
        self.told((store.catalog, store.tables, store.starts, len(store.memory)), ((), (), (), 38))
        self.does(store, plain, MAKE)
        self.told(store.starts, (38,))

    def test_drop_and_make_again(self):
        store, plain = self.begun(MAKE, ("put", "fruit", ("fig", 4)), ("drop", "fruit"), MAKE)
        self.told(store.tables, ((FRUIT, ()),))
        self.told(self.does(store, plain, ("put", "fruit", ("pear", 1))), DONE)
        self.told(store.tables[0][1], (("pear", 1),))

    def test_put(self):
        store, plain = self.begun(MAKE)
        for row in (("fig", 4), ("", -10 ** 12), ("fig", 4)):
            self.told(self.does(store, plain, ("put", "fruit", row)), DONE)
        for row in (("fig", 4), ("pear", 0)):
            self.told(self.does(store, plain, ("put", "fruit", row)), ("full",))
        self.told(store.tables[0][1], (("fig", 4), ("", -10 ** 12), ("fig", 4)))

    def test_put_into_a_table_of_one_row(self):
        store, plain = self.begun(("make", "one", EIGHT, 1))
        row = (5, "x", -1, "", 0, "y z", 10 ** 12, "0")
        self.told(self.does(store, plain, ("put", "one", row)), DONE)
        self.told(self.does(store, plain, ("put", "one", row)), ("full",))
        self.told(self.does(store, plain, ("strike", "one", ("same", ("column", "a"), ("number", 5)))), ("count", 1))
        self.told(self.does(store, plain, ("put", "one", row)), DONE)

    def test_strike(self):
        rows = (("fig", 4), ("pear", 2), ("plum", 9), ("date", 1), ("kiwi", 2))
        for condition, many in ((LOW, 3), (("not", LOW), 2), (ALL, 5), (("not", ALL), 0), (FIG, 1), (("or", FIG, LOW), 4),
                                (("same", NAME, ("text", "kiwi")), 1), (("less", NAME, ("text", "kz")), 3),
                                (("less", ("mul", MANY, MANY), ("number", 5)), 3)):
            store, plain = self.begun(("make", "fruit", FRUIT, 6), *[("put", "fruit", row) for row in rows])
            self.told(self.does(store, plain, ("strike", "fruit", condition)), ("count", many))
            self.told(self.does(store, plain, ("strike", "fruit", condition)), ("count", 0))
            self.told(self.does(store, plain, ("put", "fruit", ("last", 0))), DONE)
            self.told(store.tables[0][1][-1], ("last", 0))

    def test_strike_of_an_empty_table(self):
        for room in (1, 2, 32):
            store, plain = self.begun(("make", "fruit", FRUIT, room))
            for condition in (ALL, ("not", ALL), LOW, ("same", NAME, ("text", ""))):
                self.told(self.does(store, plain, ("strike", "fruit", condition)), ("count", 0))
                self.told(self.does(store, plain, ("change", "fruit", (("many", ("number", 7)),), condition)), ("count", 0))

    def test_change(self):
        rows = (("fig", 4), ("pear", 2), ("plum", 9), ("date", 1))
        more = ("add", MANY, ("number", 1))
        for items, condition, many in (
                ((("many", more),), LOW, 2), ((("many", more),), ALL, 4), ((("many", more),), ("not", ALL), 0),
                ((("name", ("text", "x")),), FIG, 1), ((("name", ("if", LOW, ("text", "few"), NAME)), ("many", more)), ALL, 4),
                ((("many", ("number", 0)), ("name", ("text", ""))), ("less", ("number", 3), MANY), 2),
                ((("many", MANY), ("name", NAME)), ALL, 4), ((("many", ("mul", MANY, ("sub", MANY, more))),), ALL, 4)):
            store, plain = self.begun(("make", "fruit", FRUIT, 5), *[("put", "fruit", row) for row in rows])
            self.told(self.does(store, plain, ("change", "fruit", items, condition)), ("count", many))
            self.told(self.does(store, plain, ("put", "fruit", ("last", 0))), DONE)

    def test_change_reckons_by_the_row_as_it_was(self):
        columns = (("a", "number"), ("b", "number"), ("c", "number"))
        store, plain = self.begun(("make", "t", columns, 2), ("put", "t", (1, 2, 3)), ("put", "t", (4, 5, 6)))
        a, b, c = ("column", "a"), ("column", "b"), ("column", "c")
        self.does(store, plain, ("change", "t", (("a", b), ("b", c), ("c", ("add", a, b))), ("same", a, a)))
        self.told(store.tables[0][1], ((2, 3, 3), (5, 6, 9)))
        self.does(store, plain, ("change", "t", (("c", a), ("a", c)), ("less", a, ("number", 3))))
        self.told(store.tables[0][1], ((3, 3, 2), (5, 6, 9)))

    def test_change_that_is_over(self):
        big = 10 ** 12
        rows = (("a", big), ("b", big - 1), ("c", -big), ("d", 0))
        for made, condition, answer in (
                (("add", MANY, ("number", 1)), ALL, ("over",)), (("sub", MANY, ("number", 1)), ALL, ("over",)),
                (("add", MANY, ("number", 1)), ("less", MANY, ("number", big)), ("count", 3)),
                (("sub", MANY, ("number", 1)), ("less", MANY, ("number", 0)), ("over",)),
                (("sub", ("number", 0), MANY), ALL, ("count", 4)), (("mul", MANY, MANY), ALL, ("over",)),
                (("mul", MANY, MANY), ("same", MANY, ("number", 0)), ("count", 1)),
                (("mul", MANY, MANY), ("not", ALL), ("count", 0)),
                (("add", ("sub", MANY, ("number", big)), ("number", big)), ALL, ("count", 4))):
            store, plain = self.begun(("make", "fruit", FRUIT, 5), *[("put", "fruit", row) for row in rows])
            self.told(self.does(store, plain, ("change", "fruit", (("many", made),), condition)), answer)
            self.told(self.does(store, plain, ("change", "fruit", (("name", NAME), ("many", made)), condition))[0], answer[0])

    def test_change_that_is_over_in_one_of_several_columns(self):
        columns = tuple([(name, "number") for name in "abcdefgh"])
        store, plain = self.begun(("make", "t", columns, 3), ("put", "t", (1,) * 8), ("put", "t", (2,) * 8))
        a = ("column", "a")
        for place in range(8):
            items = tuple([(name, ("mul", a, ("number", 10 ** 12 if at == place else 3))) for at, name in enumerate("abcdefgh")])
            self.told(self.does(store, plain, ("change", "t", items, ("same", a, a))), ("over",))
            self.told(store.tables[0][1], ((1,) * 8, (2,) * 8))
        self.told(self.does(store, plain, ("change", "t", items, ("same", a, ("number", 1)))), ("count", 1))
        self.told(store.tables[0][1], ((3,) * 7 + (10 ** 12,), (2,) * 8))

    def test_ask(self):
        store, plain = self.begun(MAKE, ("put", "fruit", ("fig", 4)), ("put", "fruit", ("pear", 2)))
        self.told(self.does(store, plain, ("ask", TABLE)), ("rows", FRUIT, (("fig", 4), ("pear", 2))))
        self.told(self.does(store, plain, ("ask", ("order", (("many", "up"),), TABLE))),
                  ("rows", FRUIT, (("pear", 2), ("fig", 4))))
        self.told(self.does(store, plain, ("ask", ("keep", 2, TABLE)))[0], "rows")
        self.told(self.does(store, plain, ("ask", ("keep", 1, TABLE))), ("over",))
        self.told(self.does(store, plain, ("ask", ("first", 1, ("keep", 1, TABLE)))), ("over",))
        self.told(self.does(store, plain, ("ask", ("give", (("n", ("mul", MANY, ("number", 10 ** 12))),), TABLE))),
                  ("rows", (("n", "number"),), ((4 * 10 ** 12,), (2 * 10 ** 12,))))

    def test_ask_behind_strikes_and_marks(self):
        store, plain = self.begun(
            ("make", "nuts", FRUIT, 4), MAKE, ("put", "fruit", ("fig", 4)), ("put", "nuts", ("oak", 4)), ("mark",),
            ("put", "fruit", ("pear", 2)), ("strike", "fruit", FIG), ("put", "nuts", ("elm", 2)), ("back",))
        nuts = ("give", (("nut", NAME), ("n", MANY)), ("table", "nuts"))
        plan = ("join", (("many", "n"),), 5, TABLE, nuts)
        self.told(self.does(store, plain, ("ask", plan))[2], (("fig", 4, "oak"),))
        self.does(store, plain, ("put", "nuts", ("ash", 4)))
        self.told(self.does(store, plain, ("ask", plan))[2], (("fig", 4, "oak"), ("fig", 4, "ash")))

    def test_marks(self):
        store, plain = self.begun(MAKE, ("put", "fruit", ("fig", 4)), ("mark",), ("put", "fruit", ("pear", 2)))
        self.told(self.does(store, plain, ("back",)), DONE)
        self.told((store.tables, store.starts, len(store.memory)), (((FRUIT, (("fig", 4),)),), (6,), 9))
        self.does(store, plain, ("back",))
        self.told((store.tables, store.starts, len(store.memory)), (((FRUIT, (("fig", 4),)),), (9,), 12))
        self.does(store, plain, ("drop", "fruit"))
        self.does(store, plain, ("make", "fruit", EIGHT, 1))
        self.does(store, plain, ("make", "nuts", EIGHT, 1))
        self.does(store, plain, ("back",))
        self.told(store.tables, ((FRUIT, (("fig", 4),)),))

    def test_marks_over_marks(self):
        store, plain = self.begun(MAKE, ("mark",), ("put", "fruit", ("fig", 4)), ("mark",), ("strike", "fruit", ALL),
                                  ("back",), ("strike", "fruit", ALL), ("mark",), ("put", "fruit", ("pear", 1)), ("back",))
        self.told(store.tables[0][1], ())

    def test_marks_without_tables(self):
        store, plain = self.begun(("mark",), ("back",), MAKE, ("put", "fruit", ("fig", 4)), ("back",))
        self.told((store.catalog, store.tables, store.starts, len(store.memory)), ((), (), (), 3))
        self.does(store, plain, ("mark",))
        self.does(store, plain, MAKE)
        self.told(store.starts, (3,))

    def test_each_room(self):
        chance = random.Random(120)
        for room in range(1, 33):
            columns = FRUIT if room % 3 else EIGHT
            first = ("column", columns[0][0])
            number = ("column", [name for name, kind in columns if kind == "number"][0])
            store, plain = self.begun(("make", "t", columns, room))
            for _ in range(min(room + 1, 30)):
                self.does(store, plain, ("put", "t", random_row(chance, columns)))
            self.does(store, plain, ("change", "t", ((number[1], ("sub", number, ("number", 2))),), ("less", number, ("number", 2))))
            self.does(store, plain, ("strike", "t", ("less", number, ("number", 0))))
            self.does(store, plain, ("mark",))
            self.does(store, plain, ("ask", ("order", ((first[1], "down"),), ("table", "t"))))
            self.does(store, plain, ("strike", "t", ("same", first, first)))
            self.does(store, plain, ("back",))
            self.does(store, plain, ("ask", ("distinct", ("append", ("table", "t"), ("table", "t")))))

    def test_long_conditions(self):
        nots = LOW
        for _ in range(37):
            nots = ("not", nots)
        store, plain = self.begun(MAKE, ("put", "fruit", ("fig", 4)), ("put", "fruit", ("pear", 2)))
        self.told(self.does(store, plain, ("change", "fruit", (("many", ("number", 0)),), nots)),
                  ("count", 1))
        total = MANY
        for _ in range(19):
            total = ("add", total, MANY)
        self.told(self.does(store, plain, ("change", "fruit", (("many", total), ("name", ("text", "x"))), ALL)), ("count", 2))
        self.told(self.does(store, plain, ("strike", "fruit", nots)), ("count", 1))


class Drawn(StoreCase):
    def test_drawn_scripts(self):
        chance = random.Random(121)
        for number in range(60):
            store, plain = self.begun()
            for statement in random_script(chance, 40 if number % 3 == 0 else 20):
                self.does(store, plain, statement, said=number % 2 == 1)

    def test_drawn_scripts_of_wide_rooms(self):
        chance = random.Random(122)
        for _ in range(8):
            store, plain = self.begun()
            for statement in random_script(chance, 30, 1, (16, 31, 32)):
                self.does(store, plain, statement)

    def test_as_much_memory_as_can_be(self):
        store, plain = self.begun(*[("make", name, FRUIT, 32) for name in "abcdef"])
        for _ in range(33):
            self.does(store, plain, ("mark",))
        self.told(len(store.memory), 34 * 192)
        one, other = [("give", (("n", NAME), ("m", MANY)), ("table", name)) for name in "af"]
        self.does(store, plain, ("ask", ("append", ("join", (("n", "n"), ("m", "m")), 32, one, other), other)))
        self.told(len(store.log), 40)
        self.refused(store, Full, {}, ("mark",))

    def test_the_log_done_again(self):
        chance = random.Random(123)
        for _ in range(20):
            script = random_script(chance, 25)
            one, other, third = Store(), Store(), Store()
            answers = [one.do(statement) for statement in script]
            self.told([other.do(statement) for statement in one.log], answers)
            self.told([third.say(statement_text(third.catalog, statement)) for statement in one.log], answers)
            self.told(attributes(other), attributes(one))
            self.told(attributes(third), attributes(one))

    def test_rows_that_are_drawn_make_no_difference_to_programs(self):
        one, other = Store(), Store()
        for store, rows in ((one, (("fig", 4), ("pear", 2))), (other, (("", 0), ("z", -1)))):
            store.do(MAKE)
            for row in rows:
                store.do(("put", "fruit", row))
            store.do(("strike", "fruit", LOW))
            store.do(("ask", ("order", (("many", "up"),), TABLE)))
        self.told(one.programs[-2:], other.programs[-2:])
        self.told(one.touches, other.touches)
        self.told(one.results, other.results)


class Refusals(StoreCase):
    def store(self):
        return self.begun(MAKE, ("put", "fruit", ("fig", 4)), ("make", "nuts", FRUIT, 2))[0]

    def test_no_statement(self):
        for value in (None, True, 5, "mark", (), [], {}, ["mark"], ("mark", 1), ("back", None), ("mark", ()), (("mark",),),
                      ("drop",), ("drop", "fruit", 1), ("make", "a", FRUIT), MAKE + (1,), ("put", "fruit"),
                      ("put", "fruit", ("fig", 4), 1), ("strike", "fruit"), ("strike", "fruit", ALL, ALL),
                      ("change", "fruit", (("many", MANY),)), ("change", "fruit", (("many", MANY),), ALL, 1), ("ask",),
                      ("ask", TABLE, 1), ("select", "fruit"), ("Mark",), ("undo",), (None,), (["mark"],), ({},), (1,),
                      ("table", "fruit"), ("where", ALL, TABLE)):
            self.refused(self.store(), Unfit, {}, value)

    def test_no_name(self):
        for name in (None, True, 5, "", "Fruit", "room", "text", "toolongnm", "a1", ("fruit",), ["fruit"], {}, "fruit "):
            for statement in (("make", name, FRUIT, 3), ("drop", name), ("put", name, ("fig", 4)), ("strike", name, ALL),
                              ("change", name, (("many", MANY),), ALL), ("make", name, (), 0), ("put", name, ())):
                self.refused(self.store(), Unfit, {}, statement)

    def test_make(self):
        for columns, error in (((), "form"), (None, "form"), ([("a", "text")], "form"), (EIGHT + FRUIT, "form"),
                               (("a", "text"), ("column", 0)), ((("a", "bit"),), ("column", 0)),
                               (FRUIT + (("many", "text"),), ("twice", 2)), (FRUIT[:1] * 2, ("twice", 1))):
            for room in (3, 0):
                for name in ("pears", "fruit"):
                    self.refused(self.store(), BadTable, {"error": error}, ("make", name, columns, room))
        for room in (None, True, "3", 0, 33, -1, 3.5, (3,), [3], 10 ** 300):
            for name in ("pears", "fruit"):
                self.refused(self.store(), Unfit, {}, ("make", name, FRUIT, room))
        self.refused(self.store(), Taken, {"given": "fruit"}, MAKE)
        self.refused(self.store(), Taken, {"given": "nuts"}, ("make", "nuts", EIGHT, 32))

    def test_too_many_tables(self):
        store = self.store()
        for name in "abcd":
            store.do(("make", name, FRUIT, 1))
        self.refused(store, TooMany, {"limit": 6}, ("make", "e", FRUIT, 1))
        self.refused(store, Taken, {"given": "a"}, ("make", "a", FRUIT, 1))
        self.refused(store, Unfit, {}, ("make", "e", FRUIT, 0))
        self.refused(store, BadTable, {"error": "form"}, ("make", "e", (), 0))
        store.do(("drop", "a"))
        self.told(store.do(("make", "e", FRUIT, 1)), DONE)

    def test_no_table_of_this_name(self):
        for statement in (("drop", "pears"), ("put", "pears", ("fig", 4)), ("put", "pears", None), ("strike", "pears", ALL),
                          ("strike", "pears", 5), ("change", "pears", (("many", MANY),), ALL), ("change", "pears", 5, 5)):
            self.refused(self.store(), NoName, {"given": "pears"}, statement)
            self.refused(Store(), NoName, {"given": "pears"}, statement)

    def test_a_table_that_was_dropped(self):
        store = self.store()
        store.do(("drop", "fruit"))
        self.refused(store, NoName, {"given": "fruit"}, ("drop", "fruit"))
        self.refused(store, BadPlan, {"error": ("table", ())}, ("ask", TABLE))

    def test_put(self):
        for row, error in ((("fig", True), ("value", 1)), (("fig",), "form"), (("fig", 4, 4), "form"), (["fig", 4], "form"),
                           (None, "form"), ((4, "fig"), ("value", 0)), (("Fig", 4), ("value", 0)),
                           (("fig", 10 ** 12 + 1), ("value", 1)), (("a" * 13, 4), ("value", 0)), (((), []), ("value", 0))):
            self.refused(self.store(), BadTable, {"error": error}, ("put", "fruit", row))
            self.told(row_error(FRUIT, row), error)

    def test_strike(self):
        for condition, error in ((MANY, ("kinds", ())), (5, ("expression", ())), (None, ("expression", ())),
                                 (("column", "size"), ("expression", ())), (("not", MANY), ("expression", ())),
                                 (["not", ALL], ("expression", ())), (("text", "x"), ("kinds", ())), (TABLE, ("expression", ()))):
            self.refused(self.store(), BadPlan, {"error": error}, ("strike", "fruit", condition))
            self.refused(self.store(), BadPlan, {"error": error}, ("change", "fruit", (("many", MANY),), condition))

    def test_items(self):
        for items in (None, 5, (), [], [("many", MANY)], (("many",),), (("many", MANY, 1),), (["many", MANY],), ("many", MANY),
                      (("size", MANY),), (("many", MANY), ("size", MANY)), (("many", MANY), ("many", MANY)), (MANY,),
                      (("many", MANY), ("name", NAME), ("many", 5)), ((None, MANY),), (({}, MANY),), ((["many"], MANY),),
                      (("many", MANY),) * 9, (("Many", MANY),), ((True, MANY),), {"many": MANY}):
            for condition in (ALL, MANY, None):
                self.refused(self.store(), Unfit, {}, ("change", "fruit", items, condition))

    def test_expressions_of_items(self):
        for made, error in ((5, ("expression", ())), (ALL, ("kinds", ())), (("column", "size"), ("expression", ())),
                            (None, ("expression", ())), (("add", MANY, NAME), ("expression", ()))):
            for items in ((("many", made),), (("name", NAME), ("many", made)), (("name", made),),
                          (("name", MANY), ("many", made))):
                self.refused(self.store(), BadPlan, {"error": error}, ("change", "fruit", items, ALL))
                self.refused(self.store(), BadPlan, {"error": ("kinds", ())}, ("change", "fruit", items, MANY))
        for items in ((("many", NAME),), (("name", MANY),), (("name", MANY), ("many", NAME)),
                      (("many", MANY), ("name", ("number", 5))), (("many", ("text", "")),)):
            self.refused(self.store(), Unfit, {}, ("change", "fruit", items, ALL))
            self.refused(self.store(), BadPlan, {"error": ("expression", ())}, ("change", "fruit", items, 5))
        beyond = MANY
        for _ in range(20):
            beyond = ("add", beyond, MANY)
        self.refused(self.store(), BadPlan, {"error": ("expression", ())}, ("change", "fruit", (("many", beyond),), ALL))

    def test_ask(self):
        for plan, error in ((None, ("form", ())), (("table", "pears"), ("table", ())), (["table", "fruit"], ("form", ())),
                            (("keep", 0, TABLE), ("many", ())), (("where", MANY, TABLE), ("kinds", ())),
                            (("distinct", ("table", "pears")), ("table", (0,))), ("select * from fruit", ("form", ())),
                            (("pairs", TABLE, TABLE), ("columns", ()))):
            self.refused(self.store(), BadPlan, {"error": error}, ("ask", plan))
        plan = TABLE
        for _ in range(12):
            plan = ("distinct", plan)
        self.refused(self.store(), BadPlan, {"error": ("nodes", ())}, ("ask", plan))

    def test_back_without_a_mark(self):
        self.refused(Store(), NoMark, {}, ("back",))
        self.refused(self.store(), NoMark, {}, ("back",))

    def full(self, *statements):
        store = Store()
        for statement in statements + (("drop", "pears"), ("make", "pears", FRUIT, 1)) * 20:
            if len(store.log) < 40:
                store.do(statement)
        self.told(len(store.log), 40)
        return store

    def test_the_fortieth_statement_and_the_one_behind_it(self):
        store = self.full(MAKE, ("make", "pears", FRUIT, 1), ("put", "fruit", ("fig", 4)))
        for statement in (("ask", TABLE), ("mark",), ("put", "fruit", ("fig", 4)), ("strike", "fruit", ALL), ("drop", "fruit"),
                          ("change", "fruit", (("many", MANY),), ALL), ("make", "plums", FRUIT, 1)):
            self.refused(store, Full, {}, statement)
        before = attributes(store)
        self.refuses(Full, {}, store.say, ("ask select * from fruit",))
        self.told(attributes(store), before)

    def test_full_comes_last(self):
        store = self.full(MAKE, ("make", "pears", FRUIT, 1))
        self.refused(store, NoMark, {}, ("back",))
        self.refused(store, Unfit, {}, ("undo",))
        self.refused(store, BadTable, {"error": "form"}, ("make", "a", (), 1))
        self.refused(store, Taken, {"given": "fruit"}, MAKE)
        self.refused(store, NoName, {"given": "nuts"}, ("drop", "nuts"))
        self.refused(store, BadTable, {"error": "form"}, ("put", "fruit", ()))
        self.refused(store, BadPlan, {"error": ("kinds", ())}, ("strike", "fruit", MANY))
        self.refused(store, Unfit, {}, ("change", "fruit", (("many", NAME),), ALL))
        self.refused(store, BadPlan, {"error": ("form", ())}, ("ask", None))
        marked = self.full(MAKE, ("make", "pears", FRUIT, 1), ("mark",))
        self.refused(marked, Full, {}, ("back",))
        self.refused(marked, Full, {}, ("mark",))

    def test_any_value(self):
        right = (MAKE, ("drop", "fruit"), ("put", "fruit", ("fig", 4)), ("strike", "fruit", LOW), ("ask", TABLE),
                 ("change", "fruit", (("many", ("add", MANY, MANY)), ("name", NAME)), LOW), ("mark",), ("back",),
                 ("make", "pears", EIGHT, 32), ("ask", ("where", FIG, ("order", (("many", "up"),), TABLE))))
        store, plain = self.begun(("make", "fruit", FRUIT, 5), ("put", "fruit", ("fig", 4)))
        refused = done = 0
        for value in any_values(124, right, 300):
            errors = plain.refusals(value)
            if errors:
                refused += 1
                self.refused(store, errors[0][0], errors[0][1], value)
            else:
                done += 1
                self.does(store, plain, value)
            if len(store.log) == 39 or "fruit" not in dict([entry[:2] for entry in store.catalog]):
                store, plain = self.begun(("make", "fruit", FRUIT, 5), ("put", "fruit", ("fig", 4)))
        self.assertTrue(refused > 500 and done > 5, (refused, done))


class Said(StoreCase):
    def test_say(self):
        store = Store()
        self.told([store.say(text) for text in (
            "make fruit (name text, many number) room 2", "put into fruit values ('fig', 4)", "mark",
            "put into fruit values ('pear', -2)", "put into fruit values ('plum', 0)",
            "change fruit to many = many * 2 where many < 3", "change fruit to many = many * 1000000000000 where name = 'fig'",
            "ask select name from fruit order by name down", "ask select * from fruit keep 1",
            "strike from fruit where name = 'fig'", "back", "drop fruit")],
            [DONE, DONE, DONE, DONE, ("full",), ("count", 1), ("over",), ("rows", FRUIT[:1], (("pear",), ("fig",))),
             ("over",), ("count", 1), DONE, DONE])
        self.told([statement[0] for statement in store.log],
                  ["make", "put", "mark", "put", "put", "change", "change", "ask", "ask", "strike", "back", "drop"])

    def test_what_say_refuses(self):
        store = self.begun(MAKE)[0]
        before = attributes(store)
        for value, error, fields in (
                (None, BadQuestion, {"error": ("sign", 0)}), (("mark",), BadQuestion, {"error": ("sign", 0)}),
                ("mark!", BadQuestion, {"error": ("sign", 4)}), ("mark 5", BadQuestion, {"error": ("word", 1)}),
                ("", BadQuestion, {"error": ("word", 0)}), ("back", NoMark, {}), ("drop nuts", NoName, {"given": "nuts"}),
                ("make fruit (a text) room 1", Taken, {"given": "fruit"}), ("make a (a text) room 33", Unfit, {}),
                ("make a (a text, a text) room 1", BadTable, {"error": ("twice", 1)}),
                ("put into fruit values (5)", BadTable, {"error": "form"}),
                ("strike from fruit where many", BadPlan, {"error": ("kinds", ())}),
                ("strike from fruit where " + "many + " * 40 + "1 = 1", TooMany, {"limit": 40}),
                ("strike from nuts where " + "many + " * 40 + "1 = 1", TooMany, {"limit": 40}),
                ("change fruit to size = 5 where many = 1", Unfit, {}),
                ("change fruit to many = size where many = 1", BadPlan, {"error": ("expression", ())}),
                ("ask select * from nuts", BadQuestion, {"error": ("plan", ("table", ()))}),
                ("select * from fruit", BadQuestion, {"error": ("word", 0)})):
            self.refuses(error, fields, store.say, (value,))
            self.told(attributes(store), before)

    def test_any_value(self):
        store = self.begun(MAKE)[0]
        for value in any_values(125, ("mark", "ask select * from fruit", "drop nuts"), 200):
            before = attributes(store)
            try:
                store.say(value)
                self.assertIs(type(value), str)
            except UnseenError:
                self.told(attributes(store), before)

    def test_calls(self):
        store = Store()
        self.told(store.do(statement=MAKE), DONE)
        self.told(store.say(value="drop fruit"), DONE)
        self.told(plan_error((MAKE[1:],), random_plan(random.Random(1), (MAKE[1:],), 1)), None)

    def test_what_is_handed_in_stays(self):
        store, rows = Store(), [("fig", 4)]
        store.do(MAKE)
        kept = attributes(store)
        self.refused(store, BadTable, {"error": "form"}, ("put", "fruit", rows))
        store.do(("put", "fruit", rows[0]))
        self.told(kept, attributes(self.begun(MAKE)[0]))
        self.told(rows, [("fig", 4)])
