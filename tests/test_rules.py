"""Rules, and what a step makes of two records by them."""

import random

from programmakers import LIKE_RULES, random_record, random_rule
from support import Case, any_values
from unseentables.rules import after_rule, rule_error

ONE, TWO = ("one",), ("two",)
PUT, SEVEN = ("put", 1), ("put", 7)
GATE = ((("less", ("two", 1), ("one", 1)),), ("if", ("let", 0), TWO, ONE), ("if", ("let", 0), ONE, TWO))
COUNT = ((("add", ("two", 0), ("one", 0)),), ("new", (("one", 0), ("two", 0))), ("new", (("let", 0),)))
FIGURES_400 = 10 ** 400 - 1
ATOMS = (
    ("one", 0), ("one", 23), ("two", 0), ("two", 23), ("put", 0), ("put", -5), ("put", FIGURES_400),
    ("put", -FIGURES_400), ("put", ""), ("put", "ab 1"), ("put", "z" * 12), ("put", " " * 12),
)
NO_ATOMS = (
    None, True, 0, "one", (), ("one",), ("one", 0, 0), ["one", 0], ("one", 24), ("one", -1), ("one", True),
    ("one", None), ("one", "0"), ("two", 24), ("two", -1), ("two", False), ("two", (0,)), ("three", 0), ("One", 0),
    (["one"], 0), (None, 0), ("let", 9), ("let", -1), ("let", False), ("let", None), ("let", "0"), ("let",),
    ("put",), ("put", 1, 1), ("put", True), ("put", False), ("put", None), ("put", 10 ** 400), ("put", -10 ** 400),
    ("put", "a" * 13), ("put", "A"), ("put", "a\n"), ("put", "a-b"), ("put", "'"), ("put", (1,)), ("put", ["a"]),
    ["put", 1], ("new", ()), ("add", PUT, PUT),
)
TWO_ATOM_WORDS = ("add", "sub", "mul", "less", "same")


class RuleErrors(Case):
    def right(self, rule):
        with self.subTest(str(rule)[:100]):
            self.told(rule_error(rule), None)

    def wrong(self, rule, error):
        with self.subTest(str(rule)[:100]):
            self.told(rule_error(rule), error)

    def test_example(self):
        values = (GATE, COUNT, ((), ONE), ((("add", ("let", 0), PUT),), ONE, TWO), ((), ("new", (("one", 24),)), TWO),
                  ((), ONE, ("if", PUT, TWO, ("if", PUT, ONE, TWO))))
        self.told([rule_error(value) for value in values], [None, None, "form", ("let", 0), "first", "second"])

    def test_form(self):
        for value in (None, True, 3, "abc", (), ((),), ((), ONE), ((), ONE, TWO, TWO), [(), ONE, TWO], {}, ("", "", ""),
                      ([], ONE, TWO), (None, ONE, TWO), ({}, ONE, TWO), ((("same", PUT, PUT),) * 65, ONE, TWO),
                      ((None,) * 65, None, None)):
            self.wrong(value, "form")

    def test_atoms(self):
        for atom in ATOMS:
            self.right(((("add", atom, PUT),), ONE, TWO))
            self.right(((("add", PUT, atom),), ONE, TWO))
            self.right(((("if", atom, atom, atom), ("digit", 3, atom)), ONE, TWO))
            self.right(((), ("new", (atom,)), ("if", atom, ("new", (atom, atom)), ("new", (atom,)))))

    def test_no_atoms(self):
        for atom in NO_ATOMS:
            for word in TWO_ATOM_WORDS:
                self.wrong(((("same", PUT, PUT), (word, atom, PUT)), ONE, TWO), ("let", 1))
                self.wrong(((("same", PUT, PUT), (word, PUT, atom)), ONE, TWO), ("let", 1))
            for place in (1, 2, 3):
                let = ("if", PUT, PUT, PUT)
                self.wrong(((let[:place] + (atom,) + let[place + 1:],), ONE, TWO), ("let", 0))
            self.wrong(((("digit", 0, atom),), ONE, TWO), ("let", 0))
            self.wrong(((), ("new", (PUT, atom)), TWO), "first")
            self.wrong(((), ONE, ("new", (atom, PUT))), "second")
            self.wrong(((), ("if", atom, ONE, TWO), TWO), "first")
            self.wrong(((), ONE, ("if", PUT, ("new", (atom,)), TWO)), "second")
            self.wrong(((), ("if", PUT, TWO, ("new", (atom,))), TWO), "first")

    def test_lets(self):
        for word in TWO_ATOM_WORDS:
            self.right((((word, PUT, SEVEN),), ONE, TWO))
            for let in ((word,), (word, PUT), (word, PUT, PUT, PUT), [word, PUT, PUT], (word.upper(), PUT, PUT)):
                self.wrong(((let,), ONE, TWO), ("let", 0))
        self.right(((("if", PUT, PUT, PUT),), ONE, TWO))
        for let in (("if", PUT, PUT), ("if", PUT, PUT, PUT, PUT), ["if", PUT, PUT, PUT], None, 7, "add", (), PUT, ONE,
                    ("and", PUT, PUT), ("new", ()), (["add"], PUT, PUT), (None, PUT, PUT), {"add": PUT}):
            self.wrong(((let,), ONE, TWO), ("let", 0))

    def test_digits(self):
        for digit in (0, 1, 6, 12):
            self.right(((("digit", digit, PUT),), ONE, TWO))
        for digit in (-1, 13, True, False, None, "0", (0,), PUT, 10 ** 300):
            self.wrong(((("digit", digit, PUT),), ONE, TWO), ("let", 0))
        for let in (("digit", 0), ("digit", PUT), ("digit", PUT, 0), ("digit", 0, PUT, PUT), ["digit", 0, PUT]):
            self.wrong(((let,), ONE, TWO), ("let", 0))

    def test_lets_of_lets(self):
        same = ("same", PUT, PUT)
        self.right(((same, ("add", ("let", 0), ("let", 0)), ("if", ("let", 1), ("let", 0), PUT)), ONE, TWO))
        for place in range(4):
            for asked in range(5):
                lets = (same,) * place + (("sub", PUT, ("let", asked)),) + (same,) * (4 - place)
                self.wrong((lets, ONE, TWO), None if asked < place else ("let", place))
        for asked in range(4):
            told = ("let", asked)
            self.wrong(((same, same), ("new", (told,)), TWO), None if asked < 2 else "first")
            self.wrong(((same, same), ONE, ("if", told, ONE, TWO)), None if asked < 2 else "second")

    def test_many_lets(self):
        same = ("same", PUT, PUT)
        self.right(((same,) * 64, ("new", (("let", 63),)), TWO))
        self.wrong(((same,) * 64, ("new", (("let", 64),)), TWO), "first")
        self.wrong(((same,) * 65, ONE, TWO), "form")
        self.wrong(((same,) * 63 + (("same", PUT, ("let", 63)),), ONE, TWO), ("let", 63))

    def test_record_rules(self):
        plain = (ONE, TWO, ("new", ()), ("new", (PUT,)), ("new", (PUT,) * 24))
        for rule in plain:
            self.right(((), rule, rule))
            for other in plain:
                self.right(((), ("if", PUT, rule, other), ("if", ("two", 5), other, rule)))

    def test_no_record_rules(self):
        choice = ("if", PUT, ONE, TWO)
        for rule in (None, True, 1, "one", (), ["one"], ("one", 0), ("two", 0), ("One",), ("new",), ("new", PUT, PUT),
                     ("new", PUT), ("new", []), ("new", [PUT]), ("new", None), ("new", (PUT,) * 25), ["new", (PUT,)],
                     ("new", ((),)), ("let", 0), ("put", 1), ("same", PUT, PUT), (["one"],), (None,), {},
                     ("if", PUT, ONE), ("if", PUT, ONE, TWO, TWO), ["if", PUT, ONE, TWO], ("if", ONE, ONE, TWO)):
            self.wrong(((), rule, TWO), "first")
            self.wrong(((), ONE, rule), "second")
            self.wrong(((), ("if", PUT, rule, TWO), TWO), "first")
            self.wrong(((), ONE, ("if", PUT, TWO, rule)), "second")
        self.wrong(((), ("if", PUT, choice, TWO), TWO), "first")
        self.wrong(((), ("if", PUT, TWO, choice), TWO), "first")
        self.wrong(((), ONE, ("if", PUT, choice, TWO)), "second")

    def test_which_comes_first(self):
        self.wrong(((None,), None, None), ("let", 0))
        self.wrong(((("same", PUT, PUT), None, None), None, None), ("let", 1))
        self.wrong(((), None, None), "first")
        self.wrong(((), ONE, None), "second")
        self.wrong((None, None, None), "form")
        self.wrong(((None,), None), "form")

    def test_any_value(self):
        for value in any_values(21, (GATE, COUNT, ((), ONE, TWO)) + LIKE_RULES, 900):
            error = rule_error(value)
            if isinstance(error, tuple):
                self.told(error[0], "let")
                self.assertTrue(0 <= error[1] < len(value[0]))
            else:
                self.assertIn(error, (None, "form", "first", "second"))

    def test_calls(self):
        for value in (GATE, None, [GATE], ((None,), ONE, TWO)):
            self.calls(rule_error, (value,))
        self.told(rule_error(value=GATE), None)


class AfterRule(Case):
    def comes_to(self, lets, one, other, worths):
        """The lets come to these words, in the first record and in the second one."""
        atoms = ("new", tuple([("let", place) for place in range(len(lets))]))
        self.told(after_rule((lets, atoms, atoms), one, other), (worths, worths))

    def test_examples(self):
        self.told(after_rule(GATE, (1, 7, "x"), (1, 5)), ((1, 5), (1, 7, "x")))
        self.told(after_rule(GATE, (1, 5), (1, 7)), ((1, 5), (1, 7)))
        self.told(after_rule(GATE, (1, 5), (0, 5)), ((1, 5), (0, 5)))
        self.told(after_rule(GATE, (1,), (1, "a")), ((1,), (1, "a")))
        self.told(after_rule(COUNT, (1, "b"), (4,)), ((1, 4), (5,)))

    def test_two_integers(self):
        lets = tuple([(word, ("one", 0), ("two", 0)) for word in TWO_ATOM_WORDS])
        for x in (-10 ** 30, -7, -1, 0, 1, 2, 10 ** 450):
            for y in (-10 ** 30, -7, 0, 1, 3, 10 ** 450):
                self.comes_to(lets, (x,), (y,), (x + y, x - y, x * y, int(x < y), int(x == y)))

    def test_two_texts(self):
        lets = tuple([(word, ("one", 0), ("two", 0)) for word in TWO_ATOM_WORDS])
        for x in ("", " ", "a", "a 1", "ab", "5"):
            for y in ("", "a", "a1", "b", "10"):
                self.comes_to(lets, (x,), (y,), (0, 0, 0, int(x < y), int(x == y)))

    def test_one_of_each(self):
        lets = tuple([(word, ("one", 0), ("two", 0)) for word in TWO_ATOM_WORDS])
        for x, y in ((0, ""), (1, "1"), (5, "a"), (-3, " "), ("", 0), ("0", 0), ("a", 9), ("5", 5)):
            self.comes_to(lets, (x,), (y,), (0, 0, 0, 0, 0))

    def test_if(self):
        lets = (("if", ("one", 0), ("put", "yes"), ("put", 9)),)
        for word in (1, -1, 2, 10 ** 40, "", "a", "0"):
            self.comes_to(lets, (word,), (), ("yes",))
        self.comes_to(lets, (0,), (), (9,))
        self.comes_to(lets, (), (), (9,))
        self.comes_to((("if", ("put", 0), ("one", 0), ("two", 0)), ("if", ("put", 1), ("one", 0), ("two", 0))),
                      ("left",), (4,), (4, "left"))

    def test_digits(self):
        lets = tuple([("digit", digit, ("one", 0)) for digit in range(13)])
        for number in (0, 1, 2, 6, 4095, 4096, 8191, 8192, 12345, 3 * 2 ** 200 + 5):
            self.comes_to(lets, (number,), (), tuple([number // 2 ** digit % 2 for digit in range(13)]))
        for word in (-1, -2, -4096, "", "1", "six"):
            self.comes_to(lets, (word,), (), (0,) * 13)

    def test_lets_of_lets(self):
        lets = (("add", ("one", 0), ("put", 1)), ("mul", ("let", 0), ("let", 0)), ("sub", ("let", 1), ("two", 0)),
                ("same", ("let", 2), ("let", 2)))
        self.comes_to(lets, (4,), (20,), (5, 25, 5, 1))

    def test_fields_that_are_not_there(self):
        atoms = ("new", (("one", 0), ("one", 2), ("one", 23), ("two", 0), ("two", 1)))
        self.told(after_rule(((), atoms, atoms), (5, 6), ("a",)), ((5, 0, 0, "a", 0),) * 2)
        self.told(after_rule(((), atoms, atoms), (), ()), ((0,) * 5,) * 2)
        full = tuple(range(24))
        self.told(after_rule(((), atoms, atoms), full, full), ((0, 2, 23, 0, 1),) * 2)

    def test_record_rules(self):
        one, other = (1, "a"), (0, 2, 3)
        for rule, record in ((ONE, one), (TWO, other), (("new", ()), ()), (("new", (SEVEN, ("put", "x"))), (7, "x"))):
            self.told(after_rule(((), rule, TWO), one, other), (record, other))
            self.told(after_rule(((), ONE, rule), one, other), (one, record))
            self.told(after_rule(((), ("if", ("one", 0), rule, ONE), ("if", ("two", 0), ONE, rule)), one, other),
                      (record, record))
            self.told(after_rule(((), ("if", ("two", 0), ONE, rule), ("if", ("one", 1), rule, ONE)), one, other),
                      (record, record))

    def test_both_are_read_ahead(self):
        self.told(after_rule(((), TWO, ONE), (1,), (2, 3)), ((2, 3), (1,)))
        swap = ("new", (("two", 0), ("one", 0)))
        self.told(after_rule(((), swap, swap), ("a",), ("b",)), (("b", "a"), ("b", "a")))
        self.told(after_rule(((), ("new", (("two", 0),)), ("new", (("one", 0),))), (8,), (9,)), ((9,), (8,)))

    def test_no_rule_fails(self):
        chance = random.Random(5)
        for _ in range(2000):
            rule, one, other = random_rule(chance), random_record(chance), random_record(chance)
            result = self.calls(after_rule, (rule, one, other))
            self.assertEqual([type(result), len(result)], [tuple, 2])
            for record in result:
                self.assertEqual({type(word) for word in record} - {int, str}, set())

    def test_calls(self):
        self.calls(after_rule, (GATE, (1, 7), (1, 5)))
        self.told(after_rule(other=(1, 5), one=(1, 7), rule=GATE), ((1, 5), (1, 7)))
