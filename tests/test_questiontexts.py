"""Expressions and plans as texts."""

import random

from makers import random_plan, small_expression
from support import Case
from unseentables.expressions import expression_error
from unseentables.lexing import pieces
from unseentables.plans import plan_error, ways_of
from unseentables.questions import read_expression, read_question
from unseentables.questiontexts import expression_text, question_text

COLUMNS = (("a", "number"), ("b", "number"), ("c", "text"))
A, B, C, ONE, X = ("column", "a"), ("column", "b"), ("column", "c"), ("number", 1), ("text", "x")
SMALL, SAME = ("less", A, ONE), ("same", C, X)
SHOP = (("folk", (("who", "text"), ("age", "number")), 4), ("buys", (("buyer", "text"), ("cost", "number")), 3),
        ("more", (("who", "text"), ("age", "number")), 2))
FOLK, BUYS, MORE = ("table", "folk"), ("table", "buys"), ("table", "more")
WHO, AGE = ("column", "who"), ("column", "age")
YOUNG = ("less", AGE, ("number", 40))


class ExpressionTexts(Case):
    def right(self, expression, columns=COLUMNS):
        with self.subTest(str(expression)[:100]):
            self.told(expression_error(columns, expression), None)
            text = self.calls(expression_text, (expression,))
            self.assertNotIn("\n", text)
            self.told(read_expression(text), expression)

    def test_leaves(self):
        for leaf in (A, C, ONE, ("number", 0), ("number", -1), ("number", 10 ** 12), ("number", -10 ** 12), X,
                     ("text", ""), ("text", " "), ("text", "and"), ("text", "012345678901"), ("text", "  a  1 "),
                     ("text", "5"), ("text", "a")):
            self.right(leaf)

    def test_each_word(self):
        for expression in (("add", A, B), ("sub", A, B), ("mul", A, B), ("less", A, B), ("less", C, X), ("same", A, B),
                           ("same", C, X), ("not", SMALL), ("and", SMALL, SAME), ("or", SMALL, SAME),
                           ("if", SMALL, A, B), ("if", SMALL, C, X), ("if", SMALL, SAME, SMALL)):
            self.right(expression)

    def test_each_word_in_each_place(self):
        numbers = (A, ("number", -5), ("add", A, B), ("sub", A, B), ("mul", A, B), ("if", SMALL, A, B))
        truths = (SMALL, SAME, ("not", SMALL), ("and", SMALL, SAME), ("or", SMALL, SAME), ("if", SMALL, SMALL, SAME))
        texts = (C, X, ("if", SMALL, C, X))
        for word in ("add", "sub", "mul", "less", "same"):
            for one in numbers:
                for other in numbers:
                    self.right((word, one, other))
        for word in ("less", "same"):
            for one in texts:
                for other in texts:
                    self.right((word, one, other))
        for one in truths:
            self.right(("not", one))
            for other in truths:
                self.right(("and", one, other))
                self.right(("or", one, other))
                for kinds in (numbers, texts, truths):
                    for chosen in kinds:
                        self.right(("if", one, chosen, kinds[0]))
                        self.right(("if", one, kinds[0], chosen))

    def grown(self, begin, made, many):
        found = begin
        for _ in range(many):
            found = made(found)
        return found

    def test_long_rows_to_the_left_and_to_the_right(self):
        for word in ("add", "sub", "mul"):
            self.right(self.grown(A, lambda found: (word, found, B), 19))
            self.right(self.grown(A, lambda found: (word, B, found), 19))
        for word in ("and", "or"):
            self.right(self.grown(SMALL, lambda found: (word, found, SAME), 9))
            self.right(self.grown(SMALL, lambda found: (word, SAME, found), 9))
        self.right(self.grown(A, lambda found: ("sub", ("add", found, B), B), 9))
        self.right(self.grown(A, lambda found: ("sub", B, ("mul", B, found)), 9))
        self.right(self.grown(A, lambda found: ("mul", B, ("add", found, B)), 9))

    def test_deep_ones_at_the_bound_of_parts(self):
        self.right(self.grown(SMALL, lambda found: ("not", found), 37))
        self.right(self.grown(A, lambda found: ("if", SMALL, found, B), 7))
        self.right(self.grown(A, lambda found: ("if", SMALL, B, found), 7))
        self.right(self.grown(SMALL, lambda found: ("if", found, SMALL, SAME), 4))
        self.right(self.grown(SMALL, lambda found: ("not", ("and", found, SMALL)), 7))
        self.right(self.grown(SMALL, lambda found: ("not", ("or", SMALL, found)), 7))
        self.right(self.grown(SMALL, lambda found: ("less", ("if", found, A, B), ONE), 7))
        self.right(self.grown(SMALL, lambda found: ("not", ("same", ("add", ("if", found, A, B), ONE), A)), 4))
        self.right(self.grown(A, lambda found: ("add", ("mul", B, ("sub", A, found)), B), 6))

    def test_drawn_expressions(self):
        chance = random.Random(110)
        for _ in range(2000):
            self.right(small_expression(chance, COLUMNS, chance.choice(("number", "text", "truth"))))

    def test_calls(self):
        self.told(read_expression(expression_text(expression=SMALL)), SMALL)


class QuestionTexts(Case):
    def right(self, plan, catalog=SHOP):
        with self.subTest(str(plan)[:100]):
            self.told(plan_error(catalog, plan), None)
            text = self.calls(question_text, (catalog, plan))
            self.assertNotIn("\n", text)
            self.told(read_question(catalog, text), plan)

    def test_each_word(self):
        for plan in (FOLK, ("where", YOUNG, FOLK), ("give", (("a", AGE),), FOLK), ("order", (("age", "up"),), FOLK),
                     ("order", (("age", "down"), ("who", "up")), FOLK), ("first", 1, FOLK), ("first", 64, FOLK),
                     ("keep", 2, FOLK), ("distinct", FOLK), ("numbered", "n", FOLK), ("running", "n", "age", FOLK),
                     ("append", FOLK, MORE), ("less", FOLK, MORE), ("meet", FOLK, MORE), ("pairs", FOLK, BUYS),
                     ("join", (("who", "buyer"),), 5, FOLK, BUYS), ("with", (("who", "buyer"),), FOLK, BUYS),
                     ("join", (("who", "buyer"), ("age", "cost")), 64, FOLK, BUYS),
                     ("without", (("who", "buyer"), ("age", "cost")), FOLK, BUYS)):
            self.right(plan)

    def test_gives(self):
        for items in ((("age", AGE),), (("who", WHO), ("age", AGE)), (("age", WHO), ("who", AGE)),
                      (("a", ("number", -5)), ("b", ("text", "x")), ("c", ("mul", AGE, ("add", AGE, AGE)))),
                      (("a", ("if", YOUNG, WHO, ("text", ""))), ("b", ("if", YOUNG, AGE, AGE))),
                      tuple([(name, AGE) for name in "abcdefgh"])):
            self.right(("give", items, FOLK))
            self.right(("give", items, ("where", YOUNG, FOLK)))

    def test_groups(self):
        items = (("n", "count", None), ("s", "sum", "age"), ("l", "least", "who"), ("g", "greatest", "age"))
        for names in ((), ("who",), ("age",), ("who", "age"), ("age", "who")):
            self.right(("group", names, items, FOLK))
            self.right(("group", names, items[::-1], FOLK))
            if names:
                self.right(("group", names, (), FOLK))
            for item in items:
                self.right(("group", names, (item,), FOLK))
                self.right(("where", ("same", ("column", item[0]), ("column", item[0])), ("group", names, (item,), FOLK)))
                self.right(("give", ((item[0], ("column", item[0])),), ("group", names, (item,), FOLK)))
                self.right(("distinct", ("group", names, (item,), FOLK)))

    def test_each_word_straight_on_each(self):
        ones = (lambda p: ("where", ("less", AGE, ("number", 5)), p), lambda p: ("order", (("age", "up"),), p),
                lambda p: ("give", (("who", WHO), ("age", AGE)), p), lambda p: ("first", 2, p), lambda p: ("keep", 3, p),
                lambda p: ("distinct", p), lambda p: ("group", ("who", "age"), (), p),
                lambda p: ("append", p, MORE), lambda p: ("append", MORE, p), lambda p: ("less", p, MORE),
                lambda p: ("less", MORE, p), lambda p: ("meet", p, p),
                lambda p: ("with", (("who", "buyer"),), p, BUYS), lambda p: ("without", (("who", "who"),), MORE, p),
                lambda p: ("give", (("who", WHO), ("age", AGE)), ("numbered", "n", p)),
                lambda p: ("give", (("who", WHO), ("age", AGE)), ("running", "n", "age", p)),
                lambda p: ("give", (("who", WHO), ("age", AGE)), ("pairs", p, BUYS)),
                lambda p: ("give", (("who", WHO), ("age", AGE)), ("pairs", BUYS, p)),
                lambda p: ("join", (("who", "who"), ("age", "age")), 9, p, MORE),
                lambda p: ("join", (("who", "who"), ("age", "age")), 9, MORE, p))
        for one in ones:
            for other in ones:
                self.right(one(other(FOLK)))

    def test_as_many_nodes_as_can_be(self):
        for made in (lambda p: ("where", YOUNG, p), lambda p: ("distinct", p), lambda p: ("first", 3, p),
                     lambda p: ("order", (("age", "down"),), p), lambda p: ("group", ("who", "age"), (), p),
                     lambda p: ("give", (("who", WHO), ("age", AGE)), p)):
            plan = FOLK
            for _ in range(11):
                plan = made(plan)
            self.told(len(ways_of(plan)), 12)
            self.right(plan)
        for made in (lambda p: ("append", p, FOLK), lambda p: ("append", FOLK, p), lambda p: ("less", p, FOLK),
                     lambda p: ("meet", FOLK, p), lambda p: ("with", (("who", "who"),), p, FOLK),
                     lambda p: ("with", (("who", "who"),), FOLK, p)):
            plan = FOLK
            for _ in range(5):
                plan = made(plan)
            self.right(("distinct", plan))
            self.told(len(ways_of(("distinct", plan))), 12)

    def test_nodes_and_parts_at_the_bounds_of_nests(self):
        nots = YOUNG
        for _ in range(37):
            nots = ("not", nots)
        deep = ("where", nots, FOLK)
        for _ in range(10):
            deep = ("distinct", deep)
        self.right(deep)
        deep = ("append", ("where", nots, FOLK), FOLK)
        for _ in range(4):
            deep = ("append", deep, ("table", "more"))
        self.right(deep)
        opened = [what for _, what, _ in pieces(question_text(SHOP, deep)) if what in ("(", "not", "if")]
        self.assertGreater(len(opened), 40)

    def test_drawn_plans(self):
        chance = random.Random(111)
        for _ in range(600):
            self.right(random_plan(chance, SHOP, chance.randrange(6)))

    def test_calls(self):
        self.told(read_question(SHOP, question_text(plan=FOLK, catalog=SHOP)), FOLK)
