"""Programs without idle steps."""

import random

from makers import random_plan, random_tables
from programmakers import random_memory, random_program
from support import Case
from unseentables.compiling import answered, compiled, loaded
from unseentables.lean import lean, reads_of
from unseentables.meaning import meaning
from unseentables.programs import program_error, touches
from unseentables.running import run
from unseentables.sorting import sort_program

ONE, TWO, EMPTY = ("one",), ("two",), ("new", ())
EXCHANGE, COPY, BOTH = ((), TWO, ONE), ((), ONE, ONE), ((), ("new", (("one", 0), ("two", 0))), TWO)
SHOP = (("folk", (("who", "text"), ("age", "number")), 4), ("buys", (("who", "text"), ("cost", "number")), 3))


def named_in(atoms, lets):
    """The words of the cells that atoms name."""
    found = set()
    for word, what in atoms:
        if word in ("one", "two"):
            found.add(word)
        elif word == "let":
            found |= named_in([part for part in lets[what][1:] if isinstance(part, tuple)], lets)
    return found


def named_by(record_rule, lets):
    word = record_rule[0]
    if word == "if":
        return named_in([record_rule[1]], lets) | named_by(record_rule[2], lets) | named_by(record_rule[3], lets)
    return named_in(record_rule[1], lets) if word == "new" else {word}


def slow_lean(program, kept):
    """The cells that are live ahead of all steps, and how many steps are not idle, as it is told."""
    live, many = set(kept), 0
    for one, other, place in reversed(program[2]):
        lets, first, second = program[1][place]
        cells = {"one": one, "two": other}
        ahead = live - {one, other}
        if one in live:
            ahead |= {cells[word] for word in named_by(first, lets)}
        if other in live:
            ahead |= {cells[word] for word in named_by(second, lets)}
        many += one in live or other in live
        live = ahead
    return tuple(sorted(live)), many


class Lean(Case):
    def right(self, program, kept, memories=()):
        """What reads_of tells of program, which is lean if nothing of it is idle."""
        self.told(program_error(program), None)
        reads, many = slow_lean(program, kept)
        self.told(self.calls(reads_of, (program, kept)), reads)
        found = self.calls(lean, (program, kept))
        self.told(program_error(found), None)
        self.told(found[0], program[0])
        self.assertLessEqual(len(found[2]), many)
        for memory in memories:
            behind, other = run(program, memory), run(found, memory)
            self.told([other[cell] for cell in kept], [behind[cell] for cell in kept])
        return reads

    def rule_reads(self, rule, kept):
        """What a step with rule from the cell 0 to the cell 1 reads for kept."""
        return self.right((3, (rule,), ((0, 1, 0),)), kept, [((1, 5), (2, "a"), (3,)), ((), ("x",), ())])

    def test_no_step(self):
        self.told(self.right((4, (), ()), ()), ())
        self.told(self.right((4, (EXCHANGE,), ()), (1, 3), [((1,), (2,), (3,), (4,))]), (1, 3))
        self.told(lean((4, (), ()), (0, 1, 2, 3))[2], ())

    def test_no_kept_cell(self):
        program = (3, (EXCHANGE,), ((0, 1, 0), (1, 2, 0)))
        self.told(self.right(program, (), [((1,), (2,), (3,))]), ())
        self.told(lean(program, ())[2], ())

    def test_all_kept(self):
        program = (3, (EXCHANGE, BOTH), ((0, 1, 0), (1, 2, 1), (0, 2, 0)))
        self.told(self.right(program, (0, 1, 2), [((1,), (2,), (3,))]), (0, 1, 2))

    def test_idle_steps(self):
        program = (3, (EXCHANGE,), ((0, 1, 0), (1, 2, 0), (0, 1, 0)))
        memory = ((7,), (8,), (9,))
        for kept, reads, many in (((2,), (0,), 2), ((0, 2), (0, 2), 3), ((0,), (2,), 3), ((1,), (1,), 3)):
            self.told(self.right(program, kept, [memory]), reads)
            self.assertLessEqual(len(lean(program, kept)[2]), many)

    def test_what_record_rules_name(self):
        for rule, first, second in (
                (((), ONE, TWO), (0,), (1,)), (EXCHANGE, (1,), (0,)), (COPY, (0,), (0,)), (BOTH, (0, 1), (1,)),
                (((), EMPTY, EMPTY), (), ()), (((), ("new", (("put", 5), ("put", "a"))), ("new", (("put", 0),))), (), ()),
                (((), ("new", (("two", 23),)), ("new", (("put", 0), ("one", 0)))), (1,), (0,)),
                (((), ("if", ("put", 1), ONE, EMPTY), ("if", ("put", 0), EMPTY, EMPTY)), (0,), ()),
                (((), ("if", ("one", 0), TWO, EMPTY), ("if", ("two", 5), EMPTY, ONE)), (0, 1), (0, 1)),
                (((), ("if", ("one", 0), EMPTY, EMPTY), ("if", ("two", 5), TWO, EMPTY)), (0,), (1,))):
            self.told(self.rule_reads(rule, (0,)), first)
            self.told(self.rule_reads(rule, (1,)), second)
            self.told(self.rule_reads(rule, (0, 1)), tuple(sorted(set(first + second))))
            self.told(self.rule_reads(rule, (2,)), (2,))
            self.told(self.rule_reads(rule, (0, 2)), first + (2,))

    def test_what_lets_name(self):
        for let, reads in ((("add", ("one", 0), ("put", 1)), (0,)), (("less", ("two", 0), ("put", 1)), (1,)),
                           (("same", ("two", 0), ("one", 1)), (0, 1)), (("mul", ("put", 2), ("put", 1)), ()),
                           (("if", ("put", 1), ("put", 2), ("two", 1)), (1,)),
                           (("if", ("one", 1), ("put", 2), ("put", 1)), (0,)),
                           (("if", ("put", 0), ("one", 0), ("put", 1)), (0,)),
                           (("digit", 1, ("one", 0)), (0,)), (("digit", 0, ("two", 0)), (1,)),
                           (("digit", 2, ("put", 5)), ()), (("sub", ("put", 0), ("two", 3)), (1,))):
            rule = ((let,), ("new", (("let", 0),)), ("if", ("let", 0), EMPTY, EMPTY))
            self.told(self.rule_reads(rule, (0,)), reads)
            self.told(self.rule_reads(rule, (1,)), reads)
            self.told(self.rule_reads(((let,), EMPTY, ("new", (("put", 0),))), (0, 1)), ())

    def test_lets_of_lets(self):
        lets = (("add", ("one", 0), ("put", 1)), ("digit", 3, ("let", 0)), ("add", ("two", 0), ("put", 1)),
                ("if", ("let", 1), ("put", 0), ("let", 1)), ("mul", ("let", 3), ("let", 2)))
        for place, reads in ((0, (0,)), (1, (0,)), (2, (1,)), (3, (0,)), (4, (0, 1))):
            self.told(self.rule_reads((lets, ("new", (("let", place),)), EMPTY), (0,)), reads)
            self.told(self.rule_reads((lets, EMPTY, ("if", ("let", place), EMPTY, EMPTY)), (1,)), reads)
        many = (("add", ("two", 0), ("put", 1)),) + tuple([("add", ("let", at), ("put", at)) for at in range(63)])
        self.told(self.right((2, ((many, ("new", (("let", 63),)), TWO),), ((0, 1, 0),)), (0,)), (1,))
        doubled = many[:1] + tuple([("add", ("let", at), ("let", at)) for at in range(63)])
        self.told(reads_of((2, ((doubled, ("new", (("let", 63),)), TWO),), ((0, 1, 0),)), (0,)), (1,))

    def test_drawn_programs(self):
        chance = random.Random(95)
        idle = 0
        for _ in range(600):
            cells = chance.randrange(2, 6)
            program = random_program(chance, cells, 12)
            kept = tuple([cell for cell in range(cells) if chance.random() < 0.4])
            memories = [random_memory(chance, cells) for _ in range(3)]
            self.right(program, kept, memories)
            idle += len(lean(program, kept)[2]) < len(program[2])
        self.assertGreater(idle, 100)

    def test_memories_that_are_alike_where_it_reads(self):
        chance = random.Random(96)
        unlike = 0
        for _ in range(400):
            cells = chance.randrange(2, 6)
            program = random_program(chance, cells, 8)
            kept = tuple([cell for cell in range(cells) if chance.random() < 0.3])
            reads = reads_of(program, kept)
            one, other = random_memory(chance, cells), random_memory(chance, cells)
            mixed = tuple([one[cell] if cell in reads else other[cell] for cell in range(cells)])
            behind, found = run(program, one), run(program, mixed)
            self.told([found[cell] for cell in kept], [behind[cell] for cell in kept])
            unlike += one != mixed
        self.assertGreater(unlike, 100)

    def test_compiled_programs(self):
        chance = random.Random(97)
        fewer = 0
        for _ in range(60):
            plan = random_plan(chance, SHOP, chance.randrange(4))
            program, starts, answer, over = compiled(SHOP, plan)
            kept = tuple(sorted(answer + (over,)))
            found = lean(program, kept)
            self.assertLessEqual(len(found[2]), slow_lean(program, kept)[1])
            fewer += len(found[2]) < len(program[2])
            for _ in range(4):
                tables = random_tables(chance, SHOP)
                task = (found, starts, answer, over)
                self.told(self.outcome(answered, task, run(found, loaded(SHOP, tables, task))),
                          self.outcome(meaning, SHOP, tables, plan))
        self.assertGreater(fewer, 20)

    def test_a_program_of_many_steps(self):
        program = sort_program(64, ((1, "up"),))
        self.right(program, (0,))
        self.right(program, tuple(range(64)))
        long = (3, (EXCHANGE,), ((0, 1, 0), (1, 2, 0)) * 20000)
        self.told(len(lean(long, ())[2]), 0)
        self.right(long, (2,))

    def test_what_is_left_out_hangs_on_no_memory(self):
        program = (3, (EXCHANGE, COPY), ((0, 1, 0), (1, 2, 1), (0, 1, 0)))
        self.told(touches(lean(program, (2,))), touches(lean(program, (2,))))
        self.told(len(touches(lean(program, (2,)))), 2)

    def test_calls(self):
        program = (3, (EXCHANGE,), ((0, 1, 0), (1, 2, 0)))
        self.told(reads_of(kept=(2,), program=program), (0,))
        self.told(len(lean(kept=(0,), program=program)[2]), 1)
