"""Expressions and questions read from texts."""

import random

from grammars import drawn_texts
from makers import random_plan
from support import Case, any_values
from unseentables.errors import BadQuestion, TooMany
from unseentables.expressions import expression_error
from unseentables.lexing import pieces
from unseentables.plans import plan_error
from unseentables.questions import read_expression, read_question
from unseentables.questiontexts import question_text

A, B, C, D = ("column", "a"), ("column", "b"), ("column", "c"), ("column", "d")
ONE, TWO = ("number", 1), ("number", 2)
HOUSE = (("people", (("id", "number"), ("town", "text")), 3),
         ("pets", (("owner", "number"), ("sort", "text"), ("age", "number")), 4),
         ("town", (("id", "number"), ("town", "text")), 2))
PEOPLE, PETS, TOWN = ("table", "people"), ("table", "pets"), ("table", "town")
AGE, SORT = ("column", "age"), ("column", "sort")
MARKS = {"=": ("same", A, B), "<": ("less", A, B), ">": ("less", B, A), "<=": ("not", ("less", B, A)),
         ">=": ("not", ("less", A, B)), "<>": ("not", ("same", A, B))}


class Expressions(Case):
    def reads(self, text, expected):
        with self.subTest(text[:100]):
            self.told(self.calls(read_expression, (text,)), expected)

    def stops(self, text, place):
        with self.subTest(text[:100]):
            self.refuses(BadQuestion, {"error": ("word", place)}, read_expression, (text,))

    def test_single_pieces(self):
        self.reads("a", A)
        self.reads("5", ("number", 5))
        self.reads("0", ("number", 0))
        self.reads("1000000000000", ("number", 10 ** 12))
        self.reads("'a b'", ("text", "a b"))
        self.reads("''", ("text", ""))
        self.reads("'and'", ("text", "and"))
        self.reads(" \n a\n", A)

    def test_numbers_below_0(self):
        self.reads("-1", ("number", -1))
        self.reads("- \n 1", ("number", -1))
        self.reads("-0", ("number", 0))
        self.reads("-1000000000000", ("number", -10 ** 12))
        self.reads("a - 1", ("sub", A, ONE))
        self.reads("a-1", ("sub", A, ONE))
        self.reads("a - -1", ("sub", A, ("number", -1)))
        self.reads("a + -1 * b", ("add", A, ("mul", ("number", -1), B)))
        self.reads("-1 - -2", ("sub", ("number", -1), ("number", -2)))
        self.reads("-1 < -2", ("less", ("number", -1), ("number", -2)))
        for text, place in (("- a", 1), ("-", 1), ("--1", 1), ("a - - a", 3), ("-'x'", 1), ("-(1)", 1), ("- if a", 1)):
            self.stops(text, place)

    def test_marks(self):
        for mark, expected in MARKS.items():
            self.reads("a " + mark + " b", expected)
            self.reads("a" + mark + "b", expected)
            self.reads("not a" + mark + "b", ("not", expected))
            self.reads("a" + mark + "b or c", ("or", expected, C))
            for other in MARKS:
                self.stops("a " + mark + " b " + other + " c", 3)
                self.reads(f"(a{mark}b){other}b",
                           {"=": ("same", expected, B), "<": ("less", expected, B), ">": ("less", B, expected),
                            "<=": ("not", ("less", B, expected)), ">=": ("not", ("less", expected, B)),
                            "<>": ("not", ("same", expected, B))}[other])

    def test_how_they_bind(self):
        self.reads("a or b and c", ("or", A, ("and", B, C)))
        self.reads("a and b or c", ("or", ("and", A, B), C))
        self.reads("not a and b", ("and", ("not", A), B))
        self.reads("not a or b", ("or", ("not", A), B))
        self.reads("a and not b or c", ("or", ("and", A, ("not", B)), C))
        self.reads("not a = b", ("not", ("same", A, B)))
        self.reads("not not a", ("not", ("not", A)))
        self.reads("a + b < c", ("less", ("add", A, B), C))
        self.reads("a < b + c", ("less", A, ("add", B, C)))
        self.reads("a + b * c", ("add", A, ("mul", B, C)))
        self.reads("a * b + c", ("add", ("mul", A, B), C))
        self.reads("a = b and c < d", ("and", ("same", A, B), ("less", C, D)))
        self.reads("a * b - c * d > 1", ("less", ONE, ("sub", ("mul", A, B), ("mul", C, D))))
        self.reads("not a + 1 = b and c", ("and", ("not", ("same", ("add", A, ONE), B)), C))

    def test_rows_from_the_left(self):
        self.reads("a or b or c", ("or", ("or", A, B), C))
        self.reads("a and b and c", ("and", ("and", A, B), C))
        self.reads("a + b + c", ("add", ("add", A, B), C))
        self.reads("a - b - c", ("sub", ("sub", A, B), C))
        self.reads("a - b + c - d", ("sub", ("add", ("sub", A, B), C), D))
        self.reads("a * b * c", ("mul", ("mul", A, B), C))
        self.reads("a - b * c - d", ("sub", ("sub", A, ("mul", B, C)), D))

    def test_brackets(self):
        self.reads("(a)", A)
        self.reads("((a))", A)
        self.reads("a - (b - c)", ("sub", A, ("sub", B, C)))
        self.reads("(a + b) * c", ("mul", ("add", A, B), C))
        self.reads("a and (b or c)", ("and", A, ("or", B, C)))
        self.reads("not (a and b)", ("not", ("and", A, B)))
        self.reads("(not a) = b", ("same", ("not", A), B))
        self.reads("(-1)", ("number", -1))
        for text, place in (("()", 1), ("(a", 2), ("a)", 1), ("(a))", 3), ("((a)", 4), (")", 0), ("(a b)", 2),
                            ("(a, b)", 2), ("a (b)", 1)):
            self.stops(text, place)

    def test_if(self):
        self.reads("if a then b else c", ("if", A, B, C))
        self.reads("if a then b else c + d", ("if", A, B, ("add", C, D)))
        self.reads("if a then b else c and d or a", ("if", A, B, ("or", ("and", C, D), A)))
        self.reads("if a then b else c < d", ("if", A, B, ("less", C, D)))
        self.reads("(if a then b else c) + d", ("add", ("if", A, B, C), D))
        self.reads("1 + if a then b else c * d", ("add", ONE, ("if", A, B, ("mul", C, D))))
        self.reads("1 * if a then b else c + d", ("mul", ONE, ("if", A, B, ("add", C, D))))
        self.reads("not if a then b else c or d", ("not", ("if", A, B, ("or", C, D))))
        self.reads("if if a then b else c then d else 1", ("if", ("if", A, B, C), D, ONE))
        self.reads("if a then if b then c else d else 1", ("if", A, ("if", B, C, D), ONE))
        self.reads("if a then b else if c then d else 1", ("if", A, B, ("if", C, D, ONE)))
        self.reads("if a = 1 or b then 1 + 2 else 'x'", ("if", ("or", ("same", A, ONE), B), ("add", ONE, TWO), ("text", "x")))
        self.reads("a < if a then b else c", ("less", A, ("if", A, B, C)))
        self.reads("if a then b else c < d < 1", ("less", ("if", A, B, ("less", C, D)), ONE))
        for text, place in (("if", 1), ("if a", 2), ("if a b", 2), ("if a then", 3), ("if a then b", 4), ("if a else b", 2),
                            ("if a then b else", 5), ("if then", 1), ("then", 0), ("a if", 1), ("if a then b c", 4),
                            ("if a then b else c else d", 6), ("if a then b else c then", 6)):
            self.stops(text, place)

    def test_where_no_expression_can_go_on(self):
        for text, place in (("", 0), ("  ", 0), ("a < b < c", 3), ("a + ", 2), ("+ a", 0), ("a b", 1), ("a 5", 1), ("5 a", 1),
                            ("'x' a", 1), ("a not b", 1), ("a + not b", 2), ("a < not b", 2), ("a and", 2), ("and a", 0),
                            ("a or or b", 2), ("a = = b", 2), ("a ,", 1), ("not", 1), ("not not", 2), ("not and", 1),
                            ("* a", 0), ("select", 0), ("a select", 1), ("count", 0), ("a as b", 1), ("= a", 0),
                            ("a - - - 1", 3), ("a * * b", 2), ("a from", 1), ("text", 0), ("number", 0)):
            self.stops(text, place)

    def test_nests(self):
        for opener, closer in (("(", ")"), ("not ", ""), ("if ", " then a else a"), ("if a then ", " else a"),
                               ("if a then a else ", "")):
            deep, many = opener * 60 + "a" + closer * 60, len(pieces(opener))
            if opener == "(":
                self.reads(deep, A)
            else:
                self.refuses(TooMany, {"limit": 40}, read_expression, (deep,))
            self.stops(opener + deep + closer, 60 * many)
            self.stops(opener * 61, 60 * many)
            self.stops(opener * 60, 60 * many)

    def test_mixed_nests(self):
        self.reads("(" * 58 + "not (a)" + ")" * 58, ("not", A))
        self.stops("(" * 58 + "not ((a))" + ")" * 58, 60)
        self.stops("(" * 59 + "not (a)" + ")" * 59, 60)
        self.stops("(" * 59 + "not not a" + ")" * 59, 60)
        self.reads("(" * 59 + "not a" + ")" * 59, ("not", A))
        self.reads("(" * 59 + "not a and not b" + ")" * 59, ("and", ("not", A), ("not", B)))
        self.reads("(" * 59 + "(a) + (b)" + ")" * 59, ("add", A, B))
        self.stops("(" * 59 + "(a) + ((b))" + ")" * 59, 64)
        self.reads("(" * 59 + "if a then b else c" + ")" * 59, ("if", A, B, C))
        self.stops("(" * 59 + "if (a) then b else c" + ")" * 59, 60)
        self.stops("(" * 59 + "if a then b else (c)" + ")" * 59, 64)
        self.stops("(" * 59 + "if a then b else c + (d)" + ")" * 59, 66)
        self.reads("(" * 58 + "(if a then b else c) + ((d))" + ")" * 58, ("add", ("if", A, B, C), D))
        self.stops("(" * 58 + "(if a then b else c) + (((d)))" + ")" * 58, 69)
        self.reads("(" * 59 + "not a = b and (c)" + ")" * 59, ("and", ("not", ("same", A, B)), C))
        self.stops("(" * 60 + "-(", 61)
        self.reads("(" * 60 + "-1" + ")" * 60 + " * " + "(" * 60 + "a" + ")" * 60, ("mul", ("number", -1), A))

    def test_parts(self):
        nineteen = "a" + " + a" * 19
        self.told(expression_error((("a", "number"),), read_expression(nineteen)), None)
        self.reads("not " * 39 + "a", self.nots(39))
        for text in ("a or " * 41 + "a", nineteen + " + a", "not " * 40 + "a", "a" + " * a" * 5000, "a or " * 20 + "a",
                     "if a then b else " * 12 + "a < b < c and a"):
            self.refuses(TooMany, {"limit": 40}, read_expression, (text,))
        self.reads("if a then b else " * 13 + "a", self.ifs(13))
        self.refuses(TooMany, {"limit": 40}, read_expression, ("if a then b else " * 13 + "not a",))

    def nots(self, many):
        found = A
        for _ in range(many):
            found = ("not", found)
        return found

    def ifs(self, many):
        found = A
        for _ in range(many):
            found = ("if", A, B, found)
        return found

    def test_which_error_comes_first(self):
        for text, error in (("a + + !", ("sign", 6)), ("a or " * 41 + "! a", ("sign", 205)), ("! + 5", ("sign", 0)),
                            ("a b somewhere", ("sign", 4)), ("a or " * 41 + "or", ("word", 82)),
                            ("a or " * 41, ("word", 82)), ("a or " * 41 + "a a", ("word", 83)),
                            ("(" * 61 + " 007", ("sign", 62))):
            self.refuses(BadQuestion, {"error": error}, read_expression, (text,))
        for value in (None, 5, ("a",), ["a"], True):
            self.refuses(BadQuestion, {"error": ("sign", 0)}, read_expression, (value,))

    def test_drawn_texts(self):
        for text, place in drawn_texts(101, "expr", range(3, 14), 60, 200):
            if place is not None:
                self.stops(text, place)
                continue
            try:
                read_expression(text)
            except TooMany as error:
                self.told(error.limit, 40)

    def test_any_value(self):
        for value in any_values(102, ("a and 5", "'x' = y", "if a then b else c"), 300):
            try:
                read_expression(value)
            except BadQuestion as error:
                self.told(len(error.error), 2)

    def test_calls(self):
        self.told(read_expression(value="a"), A)


class Questions(Case):
    def reads(self, text, expected):
        with self.subTest(text[:100]):
            self.told(self.calls(read_question, (HOUSE, text)), expected)

    def stops(self, text, place):
        with self.subTest(text[:100]):
            self.refuses(BadQuestion, {"error": ("word", place)}, read_question, (HOUSE, text))

    def refused(self, text, error):
        with self.subTest(text[:100]):
            self.refuses(BadQuestion, {"error": ("plan", error)}, read_question, (HOUSE, text))

    def test_items(self):
        self.reads("select * from pets", PETS)
        self.reads("select age from pets", ("give", (("age", AGE),), PETS))
        self.reads("select age, sort from pets", ("give", (("age", AGE), ("sort", SORT)), PETS))
        self.reads("select age as age from pets", ("give", (("age", AGE),), PETS))
        self.reads("select age as years, age + 1 as soon from pets",
                   ("give", (("years", AGE), ("soon", ("add", AGE, ONE))), PETS))
        self.reads("select (age) as n, -5 as m, 'x' as t from pets",
                   ("give", (("n", AGE), ("m", ("number", -5)), ("t", ("text", "x"))), PETS))
        self.reads("select if age < 2 then 'young' else sort as what from pets",
                   ("give", (("what", ("if", ("less", AGE, TWO), ("text", "young"), SORT)),), PETS))
        self.reads("select distinct * from pets", ("distinct", PETS))
        self.reads("select distinct age from pets", ("distinct", ("give", (("age", AGE),), PETS)))

    def test_where(self):
        small = ("less", AGE, TWO)
        self.reads("select * from pets where age < 2", ("where", small, PETS))
        self.reads("select sort from pets where age < 2 or sort = 'x'",
                   ("give", (("sort", SORT),), ("where", ("or", small, ("same", SORT, ("text", "x"))), PETS)))
        self.reads("select * from pets where if age < 2 then age = 1 else sort = 'x' order by age",
                   ("order", (("age", "up"),), ("where", ("if", small, ("same", AGE, ONE),
                                                          ("same", SORT, ("text", "x"))), PETS)))

    def test_groups(self):
        count, years = ("n", "count", None), ("y", "sum", "age")
        by_sort = ("group", ("sort",), (count,), PETS)
        self.reads("select sort, count(*) as n from pets group by sort", by_sort)
        self.reads("select * from pets group by sort, age", ("group", ("sort", "age"), (), PETS))
        self.reads("select sort, age from pets group by sort, age", ("group", ("sort", "age"), (), PETS))
        self.reads("select count(*) as n from pets", ("group", (), (count,), PETS))
        self.reads("select count ( * ) as n, sum(age) as y, least(sort) as l, greatest(age) as g from pets",
                   ("group", (), (count, years, ("l", "least", "sort"), ("g", "greatest", "age")), PETS))
        self.reads("select sort, age, count(*) as n, sum(age) as y from pets group by sort, age",
                   ("group", ("sort", "age"), (count, years), PETS))
        self.reads("select distinct sort, count(*) as n from pets group by sort", ("distinct", by_sort))

    def test_groups_whose_items_are_given(self):
        count = ("n", "count", None)
        by_sort = ("group", ("sort",), (count,), PETS)
        n, sort = ("n", ("column", "n")), ("sort", SORT)
        self.reads("select count(*) as n, sort from pets group by sort", ("give", (n, sort), by_sort))
        self.reads("select count(*) as n from pets group by sort", ("give", (n,), by_sort))
        self.reads("select sort from pets group by sort, age", ("give", (sort,), ("group", ("sort", "age"), (), PETS)))
        self.reads("select age, sort from pets group by sort, age",
                   ("give", (("age", AGE), sort), ("group", ("sort", "age"), (), PETS)))
        self.reads("select sort as sort, count(*) as n from pets group by sort", ("give", (sort, n), by_sort))
        self.reads("select (sort) as sort, count(*) as n from pets group by sort", ("give", (sort, n), by_sort))
        self.reads("select sort as what, count(*) as n from pets group by sort",
                   ("give", (("what", SORT), n), by_sort))
        self.reads("select sort, count(*) as n, n * 2 as m from pets group by sort",
                   ("give", (sort, n, ("m", ("mul", ("column", "n"), TWO))), by_sort))
        self.reads("select sort, n * 2 as m, count(*) as n from pets group by sort",
                   ("give", (sort, ("m", ("mul", ("column", "n"), TWO)), n), by_sort))
        self.reads("select 1 as one, count(*) as n from pets", ("give", (("one", ONE), n), ("group", (), (count,), PETS)))
        self.refused("select sort, sort, count(*) as n from pets group by sort", ("columns", ()))
        self.refused("select age, count(*) as n from pets group by sort", ("expression", ()))

    def test_having(self):
        many = ("less", ONE, ("column", "n"))
        grouped = ("group", ("sort",), (("n", "count", None),), PETS)
        self.reads("select sort, count(*) as n from pets group by sort having n > 1", ("where", many, grouped))
        self.reads("select count(*) as n from pets having n > 1",
                   ("where", many, ("group", (), (("n", "count", None),), PETS)))
        self.reads("select * from pets group by sort having sort = 'x'",
                   ("where", ("same", SORT, ("text", "x")), ("group", ("sort",), (), PETS)))
        self.reads("select count(*) as n from pets where age < 2 group by sort having n > 1",
                   ("give", (("n", ("column", "n")),), ("where", many, grouped[:3] + (("where", ("less", AGE, TWO), PETS),))))
        self.stops("select * from pets having age = 1", 4)
        self.stops("select age, sort from pets having age = 1", 6)
        self.stops("select * from pets where age = 1 having age = 1", 8)
        self.stops("select n from (select count(*) as n from pets) having n = 1", 14)
        self.stops("select * from pets order by age having age = 1", 7)
        self.stops("select count(*) as n from pets having n = 1 group by sort", 13)
        self.stops("(select * from pets group by age) append select * from pets having age = 1", 14)
        self.stops("select * from pets group by age having age = 1 having age = 1", 11)

    def test_ends(self):
        self.reads("select * from pets order by age", ("order", (("age", "up"),), PETS))
        self.reads("select * from pets order by age up", ("order", (("age", "up"),), PETS))
        self.reads("select * from pets order by age down, sort, owner up",
                   ("order", (("age", "down"), ("sort", "up"), ("owner", "up")), PETS))
        self.reads("select * from pets numbered place", ("numbered", "place", PETS))
        self.reads("select * from pets running age as total", ("running", "total", "age", PETS))
        self.reads("select * from pets first 3", ("first", 3, PETS))
        self.reads("select * from pets keep 64", ("keep", 64, PETS))
        self.reads("select distinct sort from pets order by sort numbered n running n as m first 3 keep 2",
                   ("keep", 2, ("first", 3, ("running", "m", "n", ("numbered", "n", (
                       "order", (("sort", "up"),), ("distinct", ("give", (("sort", SORT),), PETS))))))))
        for text, place in (("order age", 5), ("order by", 6), ("order by age down up", 8), ("order by age,", 8),
                            ("order by 1", 6), ("numbered", 5), ("numbered 5", 5), ("running", 5), ("running age", 6),
                            ("running age total", 6), ("running age as", 7), ("first", 5), ("first a", 5),
                            ("first -1", 5), ("keep 'x'", 5), ("keep 2 first 1", 6), ("first 1 first 1", 6),
                            ("first 3 order by age", 6), ("numbered a order by age", 6), ("distinct", 4),
                            ("running age as n numbered m", 8), ("order by age where age = 1", 7), ("5", 4), (")", 4)):
            self.stops("select * from pets " + text, place)

    def test_sources(self):
        ties = (("id", "owner"),)
        self.reads("select * from people join pets on id = owner within 4", ("join", ties, 4, PEOPLE, PETS))
        self.reads("select * from people with pets on id = owner", ("with", ties, PEOPLE, PETS))
        self.reads("select * from people without pets on id = owner", ("without", ties, PEOPLE, PETS))
        self.reads("select * from people pairs pets", ("pairs", PEOPLE, PETS))
        both = (("id", "owner"), ("town", "sort"))
        self.reads("select * from people join pets on id = owner and town = sort within 64",
                   ("join", both, 64, PEOPLE, PETS))
        self.reads("select * from people without pets on id = owner and town = sort where id = 1",
                   ("where", ("same", ("column", "id"), ONE), ("without", both, PEOPLE, PETS)))
        self.reads("select * from people with town on id = id with pets on id = owner join pets on id = owner within 1",
                   ("join", ties, 1, ("with", ties, ("with", (("id", "id"),), PEOPLE, TOWN), PETS), PETS))
        self.reads("select owner from pets pairs (select id from people) with people on id = id",
                   ("give", (("owner", ("column", "owner")),),
                    ("with", (("id", "id"),), ("pairs", PETS, ("give", (("id", ("column", "id")),), PEOPLE)), PEOPLE)))
        for text, place in (("join", 5), ("join pets", 6), ("join pets on", 7), ("join pets on id", 8),
                            ("join pets on id =", 9), ("join pets on id = owner", 10), ("join pets on id < owner", 8),
                            ("join pets on id = owner and", 11), ("join pets on id = owner within", 11),
                            ("join pets on id = owner within a", 11), ("with pets", 6), ("with pets on id = owner within 4", 10),
                            ("with pets on id = 1", 9), ("pairs", 5), ("pairs pets on id = owner", 6), ("pets", 4),
                            ("join pets within 4", 6), ("pairs select * from pets", 5), ("without on", 5),
                            ("join pets on id = owner or id = owner", 10), (", pets", 4)):
            self.stops("select * from people " + text, place)

    def test_questions_in_brackets(self):
        self.reads("(select * from pets)", PETS)
        self.reads("((select * from pets))", PETS)
        self.reads("select * from (select * from pets)", PETS)
        self.reads("select * from ((select * from pets))", PETS)
        self.reads("select * from (select * from pets where age = 1) where age = 2",
                   ("where", ("same", AGE, TWO), ("where", ("same", AGE, ONE), PETS)))
        self.reads("select * from (select * from people append select * from town) first 1",
                   ("first", 1, ("append", PEOPLE, TOWN)))
        self.reads("select * from people without (select * from pets where age = 1) on id = owner",
                   ("without", (("id", "owner"),), PEOPLE, ("where", ("same", AGE, ONE), PETS)))
        self.reads("select * from (select owner from pets) pairs ((select * from people) less select * from town)",
                   ("pairs", ("give", (("owner", ("column", "owner")),), PETS), ("less", PEOPLE, TOWN)))
        for text, place in (("()", 1), ("(select * from pets", 5), ("(select * from pets))", 6), ("(pets)", 1),
                            ("select * from (pets)", 4), ("select * from ()", 4), ("(select * from pets) first 1", 6),
                            ("(select * from pets) where age = 1", 6), ("select * from (select * from pets", 8)):
            self.stops(text, place)

    def test_joined_questions(self):
        for word in ("append", "less", "meet"):
            self.reads("select * from people " + word + " select * from town", (word, PEOPLE, TOWN))
            self.reads("(select * from people) " + word + " (select * from town)", (word, PEOPLE, TOWN))
            self.reads("select * from people " + word + " select * from town append select * from people",
                       ("append", (word, PEOPLE, TOWN), PEOPLE))
            self.reads("select * from people " + word + " (select * from town append select * from people)",
                       (word, PEOPLE, ("append", TOWN, PEOPLE)))
            self.reads("select * from people first 1 " + word + " select * from town keep 2",
                       (word, ("first", 1, PEOPLE), ("keep", 2, TOWN)))
            self.reads("select * from people where id = 1 " + word + " select * from town",
                       (word, ("where", ("same", ("column", "id"), ONE), PEOPLE), TOWN))
            self.stops("select * from people " + word, 5)
            self.stops("select * from people " + word + " town", 5)
            self.stops(word + " select * from people", 0)
            self.stops("select * from people " + word + " " + word, 5)

    def test_where_no_question_can_go_on(self):
        for text, place in (("", 0), ("select", 1), ("select *", 2), ("select * from", 3), ("select * pets", 2), ("pets", 0),
                            ("select from pets", 1), ("select age + 1 from pets", 4), ("select age,", 3), ("select , age", 1),
                            ("select *, age from pets", 2), ("select age sort from pets", 2), ("select 5 from pets", 2),
                            ("select (age) from pets", 4), ("select -5 from pets", 3), ("select 'x', age from pets", 2),
                            ("select age as from pets", 3), ("select age as 5 from pets", 3), ("select distinct from pets", 2),
                            ("select distinct distinct age from pets", 2), ("select count(*) from pets", 5),
                            ("select count(age) as n from pets", 3), ("select count * as n from pets", 2),
                            ("select count() as n from pets", 3), ("select sum(*) as n from pets", 3),
                            ("select sum(age + 1) as n from pets", 4), ("select sum(age) from pets", 5),
                            ("select sum((age)) as n from pets", 3), ("select least age as n from pets", 2),
                            ("select count(*) + 1 as n from pets", 5), ("select 1 + count(*) as n from pets", 3),
                            ("select sum(age) as n, from pets", 8), ("select not from pets", 2),
                            ("select * from pets where", 5), ("select * from pets where order by age", 5),
                            ("select * from pets where age = ", 7), ("select * from pets where age = 1 sort", 8),
                            ("select * from pets group", 5), ("select * from pets group age", 5),
                            ("select * from pets group by", 6), ("select * from pets group by age + 1", 7),
                            ("select * from pets group by (age)", 6), ("select * from pets group by age,", 8),
                            ("select * from pets group by age where age = 1", 7), ("select * from 5", 3),
                            ("select * from 'pets'", 3), ("select * from from", 3), ("from pets select *", 0),
                            ("select * from pets select * from pets", 4), ("select * from pets, people", 4),
                            ("select * from pets as p", 4), ("select age < 1 < 2 as n from pets", 4)):
            self.stops(text, place)

    def test_nests(self):
        self.reads("(" * 60 + "select * from pets" + ")" * 60, PETS)
        self.stops("(" * 61 + "select * from pets" + ")" * 61, 60)
        inner = "select * from ("
        self.reads(inner * 60 + "select * from pets" + ")" * 60, PETS)
        self.stops(inner * 61 + "select * from pets" + ")" * 61, 60 * 4 + 3)
        self.reads(inner * 59 + "select (age) as n from pets" + ")" * 59, ("give", (("n", AGE),), PETS))
        self.reads(inner * 60 + "select count(*) as n, sum(age) as m from pets" + ")" * 60,
                   ("group", (), (("n", "count", None), ("m", "sum", "age")), PETS))
        self.stops(inner * 60 + "select (age) as n from pets" + ")" * 60, 241)
        self.stops(inner * 60 + "select if age < 1 then 1 else 2 as n from pets" + ")" * 60, 241)
        self.stops(inner * 60 + "select * from pets where not age < 1" + ")" * 60, 245)
        self.stops(inner * 59 + "select * from pets where not (age < 1)" + ")" * 59, 242)
        self.reads(inner * 59 + "select * from pets where not age < 1" + ")" * 59, ("where", ("not", ("less", AGE, ONE)), PETS))
        self.reads("(" * 60 + "select * from people" + ")" * 60 + " append " + "(" * 60 + "select * from town" + ")" * 60,
                   ("append", PEOPLE, TOWN))
        self.reads("select " + "(" * 60 + "age" + ")" * 60 + " as n from " + "(" * 60 + "select * from pets" + ")" * 60,
                   ("give", (("n", AGE),), PETS))
        self.stops("select " + "(" * 61, 61)
        self.stops("select * from pets where " + "not " * 61 + "age = 1", 65)

    def test_what_is_wrong_with_the_plan(self):
        for text, error in (("select * from cats", ("table", ())), ("select * from pets where age", ("kinds", ())),
                            ("select age + 1 as n from people", ("expression", ())),
                            ("select town + 1 as n from people", ("expression", ())),
                            ("select age = 1 as n from pets", ("kinds", ())),
                            ("select * from pets where a = 1", ("expression", ())),
                            ("select age, age from pets", ("columns", ())), ("select * from pets order by a", ("names", ())),
                            ("select * from pets order by age, age", ("names", ())),
                            ("select * from pets first 0", ("many", ())), ("select * from pets keep 65", ("many", ())),
                            ("select * from pets first 1 keep 65", ("many", ())), ("select * from cats first 0", ("table", (0,))),
                            ("select * from pets numbered age", ("columns", ())),
                            ("select * from pets running sort as n", ("kinds", ())),
                            ("select sum(sort) as n from pets", ("kinds", ())), ("select sum(a) as n from pets", ("names", ())),
                            ("select * from pets group by a", ("names", ())),
                            ("select * from people pairs people", ("columns", ())),
                            ("select * from people join pets on id = sort within 4", ("kinds", ())),
                            ("select * from people join pets on owner = id within 4", ("names", ())),
                            ("select * from people join pets on id = owner within 0", ("many", ())),
                            ("select * from people append select * from pets", ("kinds", ())),
                            ("select * from people less (select * from cats)", ("table", (1,))),
                            ("select * from people append (select * from town where a = 1)", ("expression", (1,))),
                            ("select * from pets where " + "age + " * 40 + "1 = 1", ("expression", ())),
                            ("select * from pets where " + "age + " * 4000 + "1 = 1", ("expression", ())),
                            ("select * from people" + " append select * from people" * 6, ("nodes", ())),
                            ("select * from people" + " append select * from people" * 500, ("nodes", ())),
                            ("select " + "age, " * 8 + "age from pets", ("form", ())),
                            ("select * from pets group by " + "age, " * 8 + "age", ("form", ())),
                            ("select * from " + "(select * from people first 2)" + " first 1" * 1 + "", None)):
            if error is None:
                self.reads(text, ("first", 1, ("first", 2, PEOPLE)))
            else:
                self.refused(text, error)

    def test_which_error_comes_first(self):
        for text, error in (("select * from cats having !", ("sign", 26)), ("select * from cats having", ("word", 4)),
                            ("select * from pets where a = 1 first", ("word", 9)), ("select from somewhere", ("sign", 12)),
                            ("(" * 61 + "7" * 20, ("sign", 61)), ("select * from cats", ("plan", ("table", ())))):
            self.refuses(BadQuestion, {"error": error}, read_question, (HOUSE, text))
        for value in (None, 5, ("select",), ["select * from pets"], True):
            self.refuses(BadQuestion, {"error": ("sign", 0)}, read_question, (HOUSE, value))

    def test_a_question_in_the_place_of_a_table(self):
        chance = random.Random(103)
        for _ in range(150):
            plan = random_plan(chance, HOUSE, chance.randrange(4))
            text = question_text(HOUSE, plan)
            for told, expected in (("select * from (" + text + ") first 9", ("first", 9, plan)),
                                   ("(" + text + ") append (" + text + ")", ("append", plan, plan)),
                                   ("(" + text + ") less (" + text + ")\nmeet (" + text + ")",
                                    ("meet", ("less", plan, plan), plan))):
                if plan_error(HOUSE, expected) is None:
                    self.reads(told, expected)

    def test_drawn_texts(self):
        for text, place in drawn_texts(104, "question", range(5, 16), 60, 250):
            if place is not None:
                self.stops(text, place)
                continue
            try:
                self.told(plan_error(HOUSE, read_question(HOUSE, text)), None)
            except BadQuestion as error:
                self.told(error.error[0], "plan")

    def test_any_value(self):
        for value in any_values(105, ("select * from pets", "(select age from pets)"), 300):
            try:
                read_question(HOUSE, value)
            except BadQuestion as error:
                self.told(len(error.error), 2)

    def test_blanks_and_line_feeds(self):
        plan = ("where", ("less", AGE, TWO), PETS)
        self.reads(" \nselect\n*\n\nfrom  pets where age<2 \n", plan)
        self.reads("select*from pets where age<2", plan)
        self.reads("select'x'as t from(select*from pets)", ("give", (("t", ("text", "x")),), PETS))

    def test_calls(self):
        self.told(read_question(value="select * from pets", catalog=HOUSE), PETS)
        self.refuses(BadQuestion, {"error": ("plan", ("table", ()))}, read_question, ((), "select * from pets"))
