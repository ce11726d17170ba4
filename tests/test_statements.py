"""Statements as texts."""

import random

from grammars import drawn_texts
from plainstores import random_script
from support import Case, any_values
from unseentables.errors import BadQuestion, TooMany
from unseentables.plans import plan_error
from unseentables.statements import read_statement, statement_text
from unseentables.stores import Store

FRUIT = (("name", "text"), ("many", "number"))
SHOP = (("fruit", FRUIT, 3), ("nuts", FRUIT, 5))
MANY, NAME, THREE = ("column", "many"), ("column", "name"), ("number", 3)
LOW, FIG = ("less", MANY, THREE), ("same", NAME, ("text", "fig"))
PLAN = ("order", (("name", "down"),), ("give", (("name", NAME),), ("where", LOW, ("table", "fruit"))))


class Statements(Case):
    def reads(self, text, expected, catalog=SHOP):
        with self.subTest(text[:100]):
            self.told(self.calls(read_statement, (catalog, text)), expected)

    def stops(self, text, place):
        with self.subTest(text[:100]):
            for catalog in ((), SHOP):
                self.refuses(BadQuestion, {"error": ("word", place)}, read_statement, (catalog, text))

    def both(self, statement, catalog=SHOP):
        """The text of statement is read to it."""
        text = self.calls(statement_text, (catalog, statement))
        self.assertIs(type(text), str)
        self.assertNotIn("\n", text)
        self.reads(text, statement, catalog)

    def test_make(self):
        self.reads("make fruit (name text, many number) room 3", ("make", "fruit", FRUIT, 3))
        self.reads("make a(b number)room 0", ("make", "a", (("b", "number"),), 0))
        self.reads("make a (b text) room 1000000000000", ("make", "a", (("b", "text"),), 10 ** 12))
        self.reads("make a (b text, b text) room 33", ("make", "a", (("b", "text"), ("b", "text")), 33))
        nine = tuple([(name, "number") for name in "abcdefghi"])
        self.reads("make a (" + ", ".join([name + " number" for name, _ in nine]) + ") room 1", ("make", "a", nine, 1))
        for text, place in (("make", 1), ("make make", 1), ("make 5", 1), ("make a", 2), ("make a b", 2), ("make a (", 3),
                            ("make a ()", 3), ("make a (b", 4), ("make a (b)", 4), ("make a (b bit)", 4),
                            ("make a (b number", 5), ("make a (b number c", 5), ("make a (b number,)", 6),
                            ("make a (number b)", 3), ("make a (b 'text')", 4), ("make a (b number)", 6),
                            ("make a (b number) room", 7), ("make a (b number) room b", 7), ("make a (b number) room -1", 7),
                            ("make a (b number) 5", 6), ("make a (b number) room 5 5", 8), ("make a b number room 5", 2)):
            self.stops(text, place)

    def test_drop_mark_back(self):
        self.reads("drop nuts", ("drop", "nuts"))
        self.reads("drop none", ("drop", "none"))
        self.reads(" mark ", ("mark",))
        self.reads("\nback\n", ("back",))
        for text, place in (("drop", 1), ("drop room", 1), ("drop 5", 1), ("drop 'nuts'", 1), ("drop a b", 2), ("mark 5", 1),
                            ("mark mark", 1), ("back back", 1), ("back to", 1), ("drop drop", 1), ("mark fruit", 1)):
            self.stops(text, place)

    def test_put(self):
        self.reads("put into fruit values ('fig', -4)", ("put", "fruit", ("fig", -4)))
        self.reads("put into a values (0)", ("put", "a", (0,)))
        self.reads("put into a values (-0)", ("put", "a", (0,)))
        self.reads("put into a values ('')", ("put", "a", ("",)))
        self.reads("put into a values (1, -1000000000000, 'x y', - 2)", ("put", "a", (1, -10 ** 12, "x y", -2)))
        self.reads("put into a values (" + "5, " * 20 + "5)", ("put", "a", (5,) * 21))
        for text, place in (("put", 1), ("put fruit", 1), ("put into", 2), ("put into 5", 2), ("put into fruit", 3),
                            ("put into fruit (5)", 3), ("put into fruit values", 4), ("put into fruit values 5", 4),
                            ("put into fruit values (", 5), ("put into fruit values ()", 5), ("put into fruit values (a)", 5),
                            ("put into fruit values (5", 6), ("put into fruit values (5 6)", 6),
                            ("put into fruit values (5,)", 7), ("put into fruit values (-)", 6),
                            ("put into fruit values (-'x')", 6), ("put into fruit values (--5)", 6),
                            ("put into fruit values (1 + 2)", 6), ("put into fruit values ((5))", 5),
                            ("put into fruit values (5) where", 7), ("put into fruit values (and)", 5)):
            self.stops(text, place)

    def test_strike(self):
        self.reads("strike from fruit where many < 3", ("strike", "fruit", LOW))
        self.reads("strike from a where b", ("strike", "a", ("column", "b")))
        self.reads("strike from a where 5 + 'x'", ("strike", "a", ("add", ("number", 5), ("text", "x"))))
        for text, place in (("strike", 1), ("strike fruit", 1), ("strike from", 2), ("strike from fruit", 3),
                            ("strike from fruit many < 3", 3), ("strike from fruit where", 4),
                            ("strike from fruit where many <", 6), ("strike from fruit where many < 3 <", 7),
                            ("strike from fruit where many many", 5), ("strike from 5 where many < 3", 2),
                            ("strike from fruit where (many < 3", 8), ("strike from (fruit) where many < 3", 2)):
            self.stops(text, place)

    def test_change(self):
        more = ("add", MANY, ("number", 1))
        self.reads("change fruit to many = many + 1 where name = 'fig'", ("change", "fruit", (("many", more),), FIG))
        self.reads("change a to b = c = d, e = not f and g where if h then i else j",
                   ("change", "a", (("b", ("same", ("column", "c"), ("column", "d"))),
                                    ("e", ("and", ("not", ("column", "f")), ("column", "g")))),
                    ("if", ("column", "h"), ("column", "i"), ("column", "j"))))
        self.reads("change a to " + "b = 5, " * 20 + "b = 5 where c",
                   ("change", "a", (("b", ("number", 5)),) * 21, ("column", "c")))
        for text, place in (("change", 1), ("change to", 1), ("change a", 2), ("change a b = 5", 2), ("change a to", 3),
                            ("change a to where", 3), ("change a to b", 4), ("change a to b = ", 5), ("change a to b < 5", 4),
                            ("change a to b = 5", 6), ("change a to b = 5,", 7), ("change a to b = 5, where c", 7),
                            ("change a to b = 5 where", 7), ("change a to b = 5 where c = ", 9),
                            ("change a to b = 5 where c, d = 5", 8), ("change a to (b) = 5 where c", 3),
                            ("change a to b = 5 c = 5", 6), ("change a to 'b' = 5 where c", 3)):
            self.stops(text, place)

    def test_ask(self):
        self.reads("ask select name from fruit where many < 3 order by name down", ("ask", PLAN))
        self.reads("ask (select * from fruit) append select * from nuts", ("ask", ("append", ("table", "fruit"), ("table", "nuts"))))
        for text, place in (("ask", 1), ("ask ask", 1), ("ask fruit", 1), ("ask select", 2), ("ask select * from", 4),
                            ("ask select * from fruit having many = 1", 5), ("ask select * from fruit mark", 5),
                            ("ask (select * from fruit", 6)):
            self.stops(text, place)
        for text, error in (("ask select * from figs", ("table", ())), ("ask select many < 1 as a from fruit", ("kinds", ())),
                            ("ask select * from fruit where " + "many + " * 40 + "1 = 1", ("expression", ())),
                            ("ask select * from fruit keep 0", ("many", ()))):
            self.refuses(BadQuestion, {"error": ("plan", error)}, read_statement, (SHOP, text))
        self.refuses(BadQuestion, {"error": ("plan", ("table", ()))}, read_statement, ((), "ask select * from fruit"))

    def test_where_no_statement_can_go_on(self):
        for text, place in (("", 0), (" \n ", 0), ("fruit", 0), ("5", 0), ("'mark'", 0), ("select * from fruit", 0),
                            ("(mark)", 0), ("where", 0), ("=", 0), ("values", 0), ("mark, back", 1), ("mark back", 1),
                            ("put into fruit values (5) put into fruit values (5)", 7)):
            self.stops(text, place)

    def test_signs_that_are_none(self):
        for text, place in (("mark!", 4), ("make fruits_of (a text) room 1", 11), ("put into fruit values ('Fig')", 23),
                            ("drop somewhere", 5), ("put into a values (007)", 19), ("mark 5 !", 7), ("!", 0)):
            self.refuses(BadQuestion, {"error": ("sign", place)}, read_statement, (SHOP, text))
        for value in (None, 5, ("mark",), ["mark"], True, {}):
            self.refuses(BadQuestion, {"error": ("sign", 0)}, read_statement, (SHOP, value))

    def test_parts(self):
        forty = "not " + "a + " * 18 + "1 < 1"
        self.told(len(read_statement((), "strike from t where " + forty)[2]), 2)
        for text in ("strike from t where not " + forty, "strike from t where " + "a + " * 4000 + "1",
                     "change t to a = b where not " + forty, "change t to a = not " + forty + " where b",
                     "change t to a = b, b = not " + forty + ", c = d where b"):
            self.refuses(TooMany, {"limit": 40}, read_statement, ((), text))
        self.told(read_statement((), "change t to a = " + forty + ", b = " + forty + " where " + forty)[0], "change")

    def test_which_error_comes_first(self):
        many = "a + " * 41
        for text, error in (("strike from t where " + many + "1 !", ("sign", 186)),
                            ("strike from t where " + many, ("word", 86)),
                            ("strike from t where " + many + "1 1", ("word", 87)),
                            ("ask select * from figs having", ("word", 5)), ("ask select * from figs having !", ("sign", 30))):
            self.refuses(BadQuestion, {"error": error}, read_statement, ((), text))

    def test_nests(self):
        self.reads("strike from t where " + "(" * 60 + "a" + ")" * 60, ("strike", "t", ("column", "a")))
        self.stops("strike from t where " + "(" * 61, 64)
        self.reads("change t to a = " + "(" * 60 + "a" + ")" * 60 + " where " + "(" * 60 + "a" + ")" * 60,
                   ("change", "t", (("a", ("column", "a")),), ("column", "a")))
        self.stops("change t to a = a where " + "(" * 61, 67)
        self.reads("ask " + "(" * 60 + "select * from fruit" + ")" * 60, ("ask", ("table", "fruit")))
        self.stops("ask " + "(" * 61, 61)

    def test_blanks_and_line_feeds(self):
        self.reads("\nput  into\nfruit values('fig',-\n4)\n", ("put", "fruit", ("fig", -4)))
        self.reads("make fruit(name text,many number)room 3", ("make", "fruit", FRUIT, 3))
        self.reads("change fruit to many=many+1where name='fig'",
                   ("change", "fruit", (("many", ("add", MANY, ("number", 1))),), FIG))

    def test_texts(self):
        for statement in (("make", "pears", FRUIT, 1), ("make", "a", tuple([(name, "text") for name in "abcdefgh"]), 32),
                          ("drop", "nuts"), ("put", "fruit", ("", -10 ** 12)), ("put", "fruit", ("x  1", 0)),
                          ("strike", "fruit", LOW), ("strike", "fruit", ("not", ("or", LOW, FIG))),
                          ("change", "fruit", (("many", ("sub", ("number", 0), MANY)),), FIG),
                          ("change", "fruit", (("name", ("text", "x")), ("many", MANY)), ("and", LOW, FIG)),
                          ("change", "fruit", (("name", ("if", LOW, NAME, ("text", ""))),), ("if", LOW, FIG, LOW)),
                          ("ask", PLAN), ("ask", ("table", "fruit")), ("mark",), ("back",)):
            self.both(statement)

    def test_drawn_statements(self):
        chance = random.Random(112)
        for _ in range(25):
            store = Store()
            for statement in random_script(chance, 30, 4):
                self.both(statement, store.catalog)
                store.do(statement)

    def test_drawn_texts(self):
        for text, place in drawn_texts(113, "statement", range(4, 13), 60, 250):
            if place is not None:
                self.stops(text, place)
                continue
            try:
                self.assertTrue(text.startswith(read_statement(SHOP, text)[0]))
            except BadQuestion as error:
                self.told((error.error[0], text[:4]), ("plan", "ask "))
            except TooMany as error:
                self.told(error.limit, 40)

    def test_any_value(self):
        for value in any_values(114, ("mark", "drop a", "put into a values (5)", "ask select * from fruit"), 300):
            try:
                statement = read_statement(SHOP, value)
                self.assertIs(type(statement), tuple)
            except BadQuestion as error:
                self.told(len(error.error), 2)

    def test_calls(self):
        self.told(read_statement(value="mark", catalog=()), ("mark",))
        self.told(read_statement((), statement_text(statement=("drop", "a"), catalog=SHOP)), ("drop", "a"))
        self.told(plan_error(SHOP, PLAN), None)
