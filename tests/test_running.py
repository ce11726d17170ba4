"""The machine: memories, and what programs leave of them."""

import random

from programmakers import random_memory, random_program
from support import Case, any_values
from unseentables.programs import touches
from unseentables.rules import after_rule
from unseentables.running import memory_error, run

ONE, TWO = ("one",), ("two",)
GATE = ((("less", ("two", 1), ("one", 1)),), ("if", ("let", 0), TWO, ONE), ("if", ("let", 0), ONE, TWO))
COUNT = ((("add", ("two", 0), ("one", 0)),), ("new", (("one", 0), ("two", 0))), ("new", (("let", 0),)))
THREE = (3, (GATE,), ((0, 1, 0), (1, 2, 0), (0, 1, 0)))


class MemoryErrors(Case):
    def error(self, value, error):
        with self.subTest(str(value)[:100]):
            self.told(memory_error(THREE, value), error)

    def test_example(self):
        values = (((), (), ()), ((), ()), ((1,), (True,), ()), ((1,), ("A",), ()), [(), (), ()])
        self.told([memory_error(THREE, value) for value in values],
                  [None, "form", ("cell", 1), ("cell", 1), "form"])

    def test_form(self):
        for value in (None, True, 3, "abc", (), ((),), ((), ()), ((), (), (), ()), [(), (), ()], {}, (None, None)):
            self.error(value, "form")
        self.told(memory_error((1, (), ()), ((),)), None)
        self.told(memory_error((16384, (), ()), ((),) * 16384), None)
        self.told(memory_error((16384, (), ()), ((),) * 16383), "form")
        self.told(memory_error((16384, (), ()), ((),) * 16383 + ((None,),)), ("cell", 16383))

    def test_records(self):
        for record in ((), (0,), (1, "a"), (10 ** 3999, -10 ** 3999), ("", " ", "z" * 12, "a 1"), (7,) * 24,
                       ("a",) * 24):
            self.error((record, (), record), None)
        for record in (None, 5, "a", [], [1], {}, (True,), (1, False), (None,), ((),), ([1],), ("A",), ("a" * 13,),
                       ("a\n",), ("'",), (0, 1, "a-b"), (7,) * 25, ("a",) * 25, (1, {})):
            self.error((record, (), ()), ("cell", 0))
            self.error(((), (1, "a"), record), ("cell", 2))
            self.error(((), record, None), ("cell", 1))

    def test_any_value(self):
        right = (((1, 7), (1, "a"), ()), ((), (), ()), ((10 ** 400,), (0,), ("",)))
        for value in any_values(23, right, 900):
            self.assertIn(memory_error(THREE, value), (None, "form", ("cell", 0), ("cell", 1), ("cell", 2)))

    def test_calls(self):
        for value in (((), (), ()), None, [(), (), ()], ((), [], ())):
            self.calls(memory_error, (THREE, value))
        self.told(memory_error(value=((), (), ()), program=THREE), None)


class Running(Case):
    def test_examples(self):
        self.told(run(THREE, ((1, 7), (1, 5), (1, 6))), ((1, 5), (1, 6), (1, 7)))
        self.told(run((3, (COUNT,), ((0, 2, 0), (1, 2, 0))), ((1,), (1,), (0,))), ((1, 0), (1, 1), (2,)))

    def test_no_step(self):
        memory = ((), (1, "a"), (10 ** 500,))
        self.told(run((3, (), ()), memory), memory)
        self.told(run((3, (GATE, COUNT), ()), memory), memory)

    def test_steps_come_one_after_another(self):
        exchange = ((), TWO, ONE)
        self.told(run((3, (exchange,), ((0, 1, 0), (1, 2, 0))), ((1,), (2,), (3,))), ((2,), (3,), (1,)))
        self.told(run((3, (exchange,), ((1, 2, 0), (0, 1, 0))), ((1,), (2,), (3,))), ((3,), (1,), (2,)))
        copied = ((), ONE, ONE)
        self.told(run((3, (copied,), ((0, 1, 0), (1, 2, 0))), ((1,), (2,), (3,))), ((1,), (1,), (1,)))
        self.told(run((3, (copied,), ((2, 1, 0), (1, 0, 0))), ((1,), (2,), (3,))), ((3,), (3,), (3,)))

    def test_a_step_takes_its_cells_in_the_order_told(self):
        lesser = ((), ("new", (("one", 0), ("two", 0))), TWO)
        self.told(run((2, (lesser,), ((0, 1, 0),)), ((1,), (2,))), ((1, 2), (2,)))
        self.told(run((2, (lesser,), ((1, 0, 0),)), ((1,), (2,))), ((1,), (2, 1)))

    def test_integers_grow(self):
        square = ((("mul", ("one", 0), ("one", 0)),), ("new", (("let", 0),)), TWO)
        self.told(run((2, (square,), ((0, 1, 0),) * 10), ((10,), ())), ((10 ** 1024,), ()))

    def test_each_step_is_that_of_its_rule(self):
        chance = random.Random(7)
        for _ in range(300):
            cells = chance.randrange(2, 6)
            program, memory = random_program(chance, cells), random_memory(chance, cells)
            expected = list(memory)
            for one, other, place in program[2]:
                expected[one], expected[other] = after_rule(program[1][place], expected[one], expected[other])
            result = self.calls(run, (program, memory))
            self.told(result, tuple(expected))
            self.told(memory_error(program, result), None)
            untouched = set(range(cells)) - {cell for pair in touches(program) for cell in pair}
            for cell in untouched:
                self.told(result[cell], memory[cell])

    def test_calls(self):
        self.calls(run, (THREE, ((1, 7), (1, 5), (1, 6))))
        self.told(run(memory=((), (), ()), program=THREE), ((), (), ()))
