"""Shells."""

import random

from grammars import draw, spoilt
from plainstores import random_script
from support import ODD, Case, any_values
from unseentables.shells import Shell
from unseentables.statements import statement_text
from unseentables.stores import Store
from unseentables.tabletexts import grid

MAKE = "make people (who text, age number) room 3"
PEOPLE = (("who", "text"), ("age", "number"))


class Shells(Case):
    def begun(self, *lines):
        shell = Shell()
        self.told(shell.script(lines), ("done",) * len(lines))
        return shell

    def says(self, shell, line, text):
        with self.subTest(str(line)[:100]):
            self.told(shell.say(line), text)

    def test_each_answer(self):
        shell = self.begun(MAKE, "put into people values ('ann', 30)", "put into people values ('bob', 51)", "mark",
                           "put into people values ('cy', 30)")
        self.says(shell, "put into people values ('dan', 1)", "full")
        self.says(shell, "change people to age = age * 1000000000000 where age > 40", "over")
        self.says(shell, "change people to age = age + 1 where age > 40", "1 row")
        self.says(shell, "change people to age = age + 1 where age = 30", "2 rows")
        self.says(shell, "change people to age = age + 1 where age = 30", "0 rows")
        self.says(shell, "strike from people where age = 31", "2 rows")
        self.says(shell, "strike from people where age = 52", "1 row")
        self.says(shell, "strike from people where age = 52", "0 rows")
        self.says(shell, "back", "done")
        self.says(shell, "ask select * from people", "who  age\n---  ---\nann   30\nbob   51\n(2 rows)")
        self.says(shell, "ask select * from people keep 1", "over")
        self.says(shell, "ask select who from people where age > 99", "who\n---\n(0 rows)")
        self.says(shell, "ask select age * 1000000000000 as n from people first 1",
                  "             n\n--------------\n30000000000000\n(1 row)")
        self.says(shell, "drop people", "done")

    def test_questions_without_ask(self):
        shell = self.begun(MAKE, "put into people values ('ann', 30)")
        table = "who  age\n---  ---\nann   30\n(1 row)"
        for line in ("select * from people", "(select * from people)", "select*from people", "((select * from people)) first 1"):
            self.says(shell, line, table if "first" not in line else "error BadQuestion")
        self.says(shell, "(select * from people) less (select * from people)", "who  age\n---  ---\n(0 rows)")
        self.says(shell, "ask select * from people", table)
        self.says(shell, "ask (select * from people)", table)
        for line in (" select * from people", "\nselect * from people", " (select * from people)", "select", "(", "selects",
                     "select * from pets", "(mark)", "ask", "ask ask select * from people", "select * from people;",
                     "Select * from people", "people", ""):
            self.says(shell, line, "error BadQuestion")

    def test_each_error(self):
        shell = self.begun(MAKE)
        for line, text in (("mark!", "BadQuestion"), ("make a (b text) room 33", "Unfit"), ("make a (b text, b text) room 1", "BadTable"),
                           (MAKE, "Taken"), ("drop pets", "NoName"), ("put into people values (5)", "BadTable"),
                           ("put into pets values (5)", "NoName"), ("strike from people where age", "BadPlan"),
                           ("change people to size = 5 where age = 1", "Unfit"), ("back", "NoMark"),
                           ("change people to age = who where age = 1", "Unfit"),
                           ("strike from people where " + "age + " * 40 + "1 = 1", "TooMany"), ("ask select * from pets", "BadQuestion")):
            self.says(shell, line, "error " + text)
        for name in "abcde":
            self.says(shell, f"make {name} (b text) room 1", "done")
        self.says(shell, "make f (b text) room 1", "error TooMany")
        while len(shell.script((".log",))[0].split("\n")) < 40:
            self.says(shell, "select * from a", "b\n-\n(0 rows)")
        self.says(shell, "select * from a", "error Full")
        self.says(shell, "mark", "error Full")
        self.says(shell, "back", "error NoMark")

    def test_no_strings(self):
        shell = self.begun(MAKE)
        for value in ODD:
            if not isinstance(value, str):
                self.says(shell, value, "error BadQuestion")
        self.says(shell, ("mark",), "error BadQuestion")
        self.says(shell, ["select * from people"], "error BadQuestion")
        self.says(shell, ".log", "make")

    def test_tables(self):
        shell = Shell()
        self.says(shell, ".tables", "no tables")
        shell.say(MAKE)
        self.says(shell, ".tables", "people 0/3")
        shell.script(("make pets (a text) room 32", "put into people values ('', 0)", "put into people values ('', 0)"))
        self.says(shell, ".tables", "people 2/3\npets 0/32")
        shell.script(("drop people", "make a (b number) room 1", "put into a values (5)"))
        self.says(shell, ".tables", "pets 0/32\na 1/1")
        shell.script(("drop a", "drop pets"))
        self.says(shell, ".tables", "no tables")

    def test_show(self):
        shell = self.begun(MAKE, "make pets (a text) room 2", "put into people values ('ann', 30)")
        self.says(shell, ".show people", "who  age\n---  ---\nann   30\n(1 row)")
        self.says(shell, ".show pets", "a\n-\n(0 rows)")
        for name in ("cats", "", " ", " people", "people ", "People", "people\n", "people pets", "room", "'people'", ".", "(people)"):
            self.says(shell, ".show " + name, "error NoName")
        for line in (".show", ".showpeople", ".Show people", ". show people", ".show\npeople", " .show people"):
            self.says(shell, line, "error BadQuestion")

    def test_touches(self):
        shell = Shell()
        self.says(shell, ".touches", "0")
        store, many = Store(), 0
        for line in (MAKE, "put into people values ('ann', 30)", "mark", "ask select * from people order by age",
                     "strike from people where age = 30", "back"):
            shell.say(line)
            store.say(line)
            many = sum([len(pairs) for pairs in store.touches])
            self.says(shell, ".touches", str(many))
        self.assertGreater(many, 10)
        shell.say("drop pets")
        self.says(shell, ".touches", str(many))

    def test_log(self):
        shell = Shell()
        self.says(shell, ".log", "")
        lines = (MAKE, "put into people values ('ann', 30)", "mark", "select * from people", "drop pets", "put into people",
                 "strike from people where age = 30", "change people to age = 1 where age = 2", "back", ".tables", "drop people")
        shell.script(lines)
        self.says(shell, ".log", "make\nput\nmark\nask\nstrike\nchange\nback\ndrop")

    def test_other_lines_of_the_shell(self):
        shell = self.begun(MAKE)
        for line in (".", "..", ".help", ".table", ".tables ", ".tables people", " .tables", ".Tables", ".touches ", ".touch",
                     ".log ", ".logs", ".log\n", ".mark", ".select * from people", ".(select * from people)", ".tables\n", "...."):
            self.says(shell, line, "error BadQuestion")
        self.says(shell, ".log", "make")

    def test_lines_of_the_shell_change_nothing(self):
        shell, other = self.begun(MAKE), self.begun(MAKE)
        shell.script((".tables", ".show people", ".show pets", ".touches", ".log", ".help", "."))
        for line in (".log", ".touches", ".tables", "put into people values ('ann', 1)", ".show people"):
            self.told(shell.say(line), other.say(line))

    def test_script(self):
        self.told(Shell().script(()), ())
        self.told(Shell().script((".tables", 7, MAKE, ".tables")), ("no tables", "error BadQuestion", "done", "people 0/3"))
        one, other = Shell(), Shell()
        lines = (MAKE, "put into people values ('ann', 30)", "select * from people", ".log", None)
        self.told(one.script(lines), tuple([other.say(line) for line in lines]))

    def test_two_shells_side_by_side(self):
        one, other = self.begun(MAKE), Shell()
        self.says(other, ".tables", "no tables")
        other.say("make pets (a text) room 2")
        one.say("put into people values ('ann', 30)")
        self.says(one, ".tables", "people 1/3")
        self.says(other, ".tables", "pets 0/2")
        self.says(other, ".log", "make")

    def test_drawn_scripts(self):
        chance = random.Random(140)
        for _ in range(20):
            store, one, other = Store(), Shell(), Shell()
            for statement in random_script(chance, 25, 3):
                line = statement_text(store.catalog, statement)
                if statement[0] == "ask" and chance.random() < 0.5:
                    line = line[len("ask "):]
                answer = store.do(statement)
                told = one.say(line)
                self.told(other.say(line), told)
                if answer[0] == "rows":
                    self.told(told, grid(answer[1], answer[2]))
                elif answer[0] == "count":
                    self.told(told, f"{answer[1]} row" + ("" if answer[1] == 1 else "s"))
                else:
                    self.told(told, answer[0])
                for name, columns, _ in store.catalog:
                    self.told(one.say(".show " + name), grid(columns, dict(zip(
                        [entry[0] for entry in store.catalog], [table[1] for table in store.tables]))[name]))
            self.told(one.say(".log"), "\n".join([statement[0] for statement in store.log]))

    def test_one_shape_adds_the_same_touches(self):
        one, other = self.begun(MAKE, "put into people values ('ann', 30)"), self.begun(MAKE, "put into people values ('', 0)")
        for left, right in (("select * from people where age > 5", "select * from people where age > 99"),
                            ("strike from people where who = 'ann'", "strike from people where who = 'bob'"),
                            ("put into people values ('cy', 5)", "put into people values ('dan', -5)")):
            one.say(left)
            other.say(right)
            self.told(one.say(".touches"), other.say(".touches"))

    def test_nothing_is_ever_raised(self):
        chance = random.Random(141)
        values = any_values(142, (MAKE, "select * from people", ".show people", "mark", "back", ""), 300)
        for _ in range(600):
            texts = draw(chance, "statement", chance.randrange(4, 13))
            if len(texts) < 60:
                values.append(" ".join(spoilt(chance, texts) if chance.random() < 0.5 else texts))
        values += ["(" * 20000, "ask " + "(" * 9000, "not " * 5000, "select * from t where " + "not " * 60 + "a",
                   "strike from people where " + "(" * 60 + "age" + ")" * 60, "strike from people where " + "age + " * 3000 + "1 = 1",
                   "select * from people" + " append select * from people" * 700, "'" * 20000, "." * 20000, "9" * 20000,
                   "change people to age = " + "age * " * 3000 + "1 where " + "age = 1 or " * 900 + "age = 2"]
        shell = Shell()
        for number, value in enumerate(values):
            text = shell.say(value)
            self.assertIs(type(text), str)
            self.assertRegex(text, r"\A[ -~\n]*\Z")
            if number % 60 == 0:
                shell = Shell()
                shell.say(MAKE)

    def test_calls(self):
        shell = Shell()
        self.told(shell.say(line=MAKE), "done")
        self.told(shell.script(lines=(".tables",)), ("people 0/3",))
        self.told(shell.say(".show people"), grid(PEOPLE, ()))
