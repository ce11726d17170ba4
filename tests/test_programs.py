"""Programs: what is none, what they touch, and one behind another."""

import random

from programmakers import LIKE_RULES, random_memory, random_program
from support import Case, any_values
from unseentables.errors import TooMany
from unseentables.programs import behind, program_error, touches
from unseentables.rules import rule_error
from unseentables.running import run

ONE, TWO = ("one",), ("two",)
GATE = ((("less", ("two", 1), ("one", 1)),), ("if", ("let", 0), TWO, ONE), ("if", ("let", 0), ONE, TWO))
COUNT = ((("add", ("two", 0), ("one", 0)),), ("new", (("one", 0), ("two", 0))), ("new", (("let", 0),)))
EXCHANGE = ((), TWO, ONE)
THREE = (3, (GATE,), ((0, 1, 0), (1, 2, 0), (0, 1, 0)))


class ProgramErrors(Case):
    def error(self, value, error):
        with self.subTest(str(value)[:100]):
            self.told(program_error(value), error)

    def test_example(self):
        values = (THREE, (0, (), ()), (2, (GATE, None), ()), (2, (GATE,), ((0, 0, 0),)),
                  (2, (GATE,), ((0, 1, 0), (0, 2, 0))), (2, (), ((0, 1, 0),)))
        self.told([program_error(value) for value in values],
                  [None, "form", ("rule", 1, "form"), ("step", 0), ("step", 1), ("step", 0)])

    def test_cells(self):
        for cells in (1, 2, 16383, 16384):
            self.error((cells, (), ()), None)
        for cells in (0, -1, 16385, 10 ** 300, True, False, None, "1", (1,), [1]):
            self.error((cells, (), ()), "form")
        self.error((16384, (GATE,), ((16383, 0, 0),)), None)

    def test_form(self):
        for value in (None, True, 3, "abc", (), (1, ()), (1, (), (), ()), [1, (), ()], {}, (1, [], ()), (1, (), []),
                      (1, None, ()), (1, (), None), (1, "", ()), (1, (), ""), (1, {}, ()), ((), (), ())):
            self.error(value, "form")

    def test_many_rules(self):
        self.error((2, (EXCHANGE,) * 512, ((0, 1, 511),)), None)
        self.error((2, (EXCHANGE,) * 512, ((0, 1, 512),)), ("step", 0))
        self.error((2, (EXCHANGE,) * 513, ()), "form")
        self.error((2, (None,) * 513, ()), "form")
        self.error((2, (EXCHANGE,) * 511 + (None,), ()), ("rule", 511, "form"))

    def test_many_steps(self):
        steps = ((0, 1, 0),) * (2 * 10 ** 6)
        self.error((2, (EXCHANGE,), steps), None)
        self.error((2, (EXCHANGE,), steps + steps[:1]), "form")
        self.error((2, (EXCHANGE,), steps[:-1] + ((1, 1, 0),)), ("step", 2 * 10 ** 6 - 1))

    def test_rules_that_are_none(self):
        same = ("same", ("put", 1), ("put", 1))
        for rule in (None, (), ((), ONE), [(), ONE, TWO], ((same, None), ONE, TWO), ((), None, TWO), ((), ONE, None),
                     ((same,) * 65, ONE, TWO), ((("add", ("let", 0), ("put", 1)),), ONE, TWO)):
            error = rule_error(rule)
            self.assertIsNotNone(error)
            self.error((2, (rule,), ()), ("rule", 0, error))
            self.error((2, (GATE, COUNT, rule, None), ()), ("rule", 2, error))

    def test_steps_that_are_none(self):
        for step in (None, 5, "abc", (), (0, 1), (0, 1, 0, 0), [0, 1, 0], (0, 0, 0), (2, 2, 1), (0, 3, 0), (3, 0, 0),
                     (-1, 0, 0), (0, -1, 0), (0, 1, 2), (0, 1, -1), (True, 0, 0), (0, True, 0), (False, 1, 0),
                     (1, 0, False), (0, 1, True), (None, 1, 0), (0, "1", 0), (0, 1, (0,)), (0, 1, None), {}):
            self.error((3, (GATE, COUNT), (step,)), ("step", 0))
            self.error((3, (GATE, COUNT), ((0, 1, 0), (2, 0, 1), step, None)), ("step", 2))

    def test_which_comes_first(self):
        self.error((0, (None,), (None,)), "form")
        self.error((1, (None,), [None]), "form")
        self.error((1, (None, ()), (None,)), ("rule", 0, "form"))
        self.error((1, (GATE,), (None, None)), ("step", 0))
        self.error((1, (GATE,), ((0, 1, 0),)), ("step", 0))

    def test_any_value(self):
        for value in any_values(22, (THREE, (4, (GATE, COUNT), ((3, 0, 1),)), (1, (), ())) + LIKE_RULES, 900):
            error = program_error(value)
            if error is None or error == "form":
                continue
            if error[0] == "rule":
                self.told(error, ("rule", error[1], rule_error(value[1][error[1]])))
            else:
                self.told(error, ("step", error[1]))
                self.assertTrue(0 <= error[1] < len(value[2]))

    def test_calls(self):
        for value in (THREE, None, [THREE], (2, (None,), ())):
            self.calls(program_error, (value,))
        self.told(program_error(value=THREE), None)


class Touches(Case):
    def test_touches(self):
        self.told(touches(THREE), ((0, 1), (1, 2), (0, 1)))
        self.told(touches((1, (), ())), ())
        self.told(touches((3, (GATE, COUNT), ((2, 0, 1), (0, 2, 0)))), ((2, 0), (0, 2)))

    def test_calls(self):
        self.calls(touches, (THREE,))
        self.told(touches(program=THREE), touches(THREE))


class Behind(Case):
    def test_example(self):
        self.told(behind(THREE, (4, (COUNT,), ((3, 0, 0),))),
                  (4, (GATE, COUNT), ((0, 1, 0), (1, 2, 0), (0, 1, 0), (3, 0, 1))))

    def test_numbers_of_cells(self):
        for one in (1, 2, 5, 16384):
            for other in (1, 3, 16384):
                self.told(behind((one, (), ()), (other, (), ())), (max(one, other), (), ()))

    def test_rules_stand_twice(self):
        self.told(behind(THREE, THREE), (3, (GATE, GATE), THREE[2] + ((0, 1, 1), (1, 2, 1), (0, 1, 1))))

    def test_too_many_rules(self):
        half = (2, (EXCHANGE,) * 256, ((0, 1, 255),))
        self.told(behind(half, half), (2, (EXCHANGE,) * 512, ((0, 1, 255), (0, 1, 511))))
        more = (2, (EXCHANGE,) * 257, ())
        self.refuses(TooMany, {"limit": 512}, behind, (half, more))
        self.refuses(TooMany, {"limit": 512}, behind, (more, half))

    def test_too_many_steps(self):
        half = (2, (EXCHANGE,), ((0, 1, 0),) * 10 ** 6)
        self.assertEqual(len(behind(half, half)[2]), 2 * 10 ** 6)
        more = (2, (EXCHANGE,), half[2] + half[2][:1])
        with self.assertRaises(TooMany) as caught:
            behind(half, more)
        self.told(caught.exception.limit, 2 * 10 ** 6)
        both = (2, (EXCHANGE,) * 512, more[2])
        with self.assertRaises(TooMany) as caught:
            behind(both, more)
        self.told(caught.exception.limit, 512)

    def test_what_holds(self):
        chance = random.Random(6)
        for _ in range(300):
            cells = chance.randrange(2, 6)
            one, other = random_program(chance, cells), random_program(chance, cells)
            both = self.calls(behind, (one, other))
            memory = random_memory(chance, cells)
            self.told(program_error(both), None)
            self.told(touches(both), touches(one) + touches(other))
            self.told(run(both, memory), run(other, run(one, memory)))

    def test_calls(self):
        self.calls(behind, (THREE, (4, (COUNT,), ((3, 0, 0),))))
        self.told(behind(other=THREE, one=(1, (), ())), THREE)
