"""Programs as texts."""

import random

from programmakers import LIKE_RULES, random_program
from support import Case, any_values
from unseentables.errors import BadText
from unseentables.programs import program_error
from unseentables.programtexts import program_text, read_program

ONE, TWO = ("one",), ("two",)
A, B = ("one", 1), ("two", 23)
GATE = ((("less", ("two", 1), ("one", 1)),), ("if", ("let", 0), TWO, ONE), ("if", ("let", 0), ONE, TWO))
RIGHT = "cells 2\nrule\nlet if one.0 'a b' -3\nfirst new let.0 7\nsecond if two.1 : one : new\nstep 1 0 0"


class ProgramTexts(Case):
    def both(self, program, text):
        with self.subTest(text[:100]):
            self.told(program_error(program), None)
            self.told(program_text(program), text)
            self.told(read_program(text), program)

    def one_let(self, let, text):
        self.both((1, ((((let,), ONE, TWO)),), ()), "cells 1\nrule\nlet " + text + "\nfirst one\nsecond two")

    def bad(self, value):
        with self.subTest(str(value)[:100]):
            self.refuses(BadText, {}, read_program, (value,))

    def test_examples(self):
        self.both((2, (GATE,), ((0, 1, 0),)), "cells 2\nrule\nlet less two.1 one.1\nfirst if let.0 : two : one\n"
                  "second if let.0 : one : two\nstep 0 1 0")
        self.told(read_program("cells 2\nrule\nlet if one.0 'a b' -3\nfirst new let.0 7\nsecond new\nstep 1 0 0"),
                  (2, (((("if", ("one", 0), ("put", "a b"), ("put", -3)),), ("new", (("let", 0), ("put", 7))),
                        ("new", ())),), ((1, 0, 0),)))
        self.bad("cells 2\nstep 0 1 0")
        self.bad("cells 02")

    def test_no_rule_and_no_step(self):
        self.both((1, (), ()), "cells 1")
        self.both((16384, (), ()), "cells 16384")
        self.both((5, (((), ONE, TWO),), ()), "cells 5\nrule\nfirst one\nsecond two")
        self.both((5, (((), ONE, TWO), ((), TWO, ONE)), ((4, 0, 1), (0, 4, 0))),
                  "cells 5\nrule\nfirst one\nsecond two\nrule\nfirst two\nsecond one\nstep 4 0 1\nstep 0 4 0")

    def test_lets(self):
        for word in ("add", "sub", "mul", "less", "same"):
            self.one_let((word, A, B), word + " one.1 two.23")
        self.one_let(("if", A, B, ("put", "x")), "if one.1 two.23 'x'")
        self.one_let(("digit", 0, A), "digit 0 one.1")
        self.one_let(("digit", 12, ("put", "")), "digit 12 ''")
        self.both((1, ((((("same", A, A), ("add", ("let", 0), ("put", -1))), ONE, TWO)),), ()),
                  "cells 1\nrule\nlet same one.1 one.1\nlet add let.0 -1\nfirst one\nsecond two")

    def test_atoms(self):
        for atom, text in ((("one", 0), "one.0"), (("one", 23), "one.23"), (("two", 10), "two.10"),
                           (("put", 0), "0"), (("put", 10), "10"), (("put", -10), "-10"), (("put", "0"), "'0'"),
                           (("put", ""), "''"), (("put", " "), "' '"), (("put", "a"), "'a'"),
                           (("put", "  a  b 12  "), "'  a  b 12  '"), (("put", " " * 12), "'" + " " * 12 + "'"),
                           (("put", 10 ** 400 - 1), "9" * 400), (("put", 1 - 10 ** 400), "-" + "9" * 400),
                           (("put", "one"), "'one'"), (("put", "if"), "'if'"), (("put", "let 0"), "'let 0'")):
            self.one_let(("add", atom, ("put", 5)), "add " + text + " 5")
            self.one_let(("add", ("put", 5), atom), "add 5 " + text)

    def test_record_rules(self):
        rules = ((ONE, "one"), (TWO, "two"), (("new", ()), "new"), (("new", (A,)), "new one.1"),
                 (("new", (A, ("put", "a b"), ("put", -7), B)), "new one.1 'a b' -7 two.23"),
                 (("new", (A,) * 24), "new" + " one.1" * 24))
        for rule, text in rules:
            self.both((1, (((), rule, ONE),), ()), "cells 1\nrule\nfirst " + text + "\nsecond one")
            self.both((1, (((), TWO, rule),), ()), "cells 1\nrule\nfirst two\nsecond " + text)
            for other, more in rules:
                self.both((1, (((), ("if", A, rule, other), ("if", ("put", "x"), other, rule)),), ()),
                          "cells 1\nrule\nfirst if one.1 : " + text + " : " + more + "\nsecond if 'x' : " + more
                          + " : " + text)

    def test_no_program(self):
        for text in ("", "\n", " ", "cells", "cells ", "cells 0", "cells 16385", "cells -1", "cells -0", "cells 01",
                     "cells  1", " cells 1", "cells 1 ", "cells 1\n", "\ncells 1", "cells 1\n\n", "Cells 1",
                     "cells '1'", "cells 1 1", "cells one", "cells one.1", "cell 1", "rule", "step 0 1 0",
                     "cells 1\ncells 1", "cells 2\ncells 1", "cells " + "1" * 5000, "cells 1\nfirst one",
                     "cells 1\nlet add 1 1", "cells 1\nrule", "cells 1\nrule\nfirst one", "cells 1\nrule\nsecond one",
                     "cells 1\nrule\nfirst one\nsecond one\nstep 0 0 0", "cells 1\nrule first one\nsecond one",
                     "rule\nfirst one\nsecond one\ncells 1", "cells 1\nrule\nfirst one\nsecond one\nfirst one"):
            self.bad(text)

    def test_wrong_parts(self):
        for part in ("one.24", "two.24", "one.-1", "one.00", "one.01", "one.", "one", ".1", "one.x", "one.'1'",
                     "three.1", "let.0", "let.1", "let.-0", "put.1", "-0", "00", "05", "-05", "+5", "5.", "- 5", "--5",
                     "9" * 401, "-" + "9" * 401, "9" * 5000, "'a", "a'", "'", "'''", "a", "'A'", "'a\tb'", "'a-b'",
                     "'" + "a" * 13 + "'", "'a\nb'", "''''", "one.0one.0", "one.0 ", " one.0", "", ":", "one.0 one.0",
                     "'a'one.0", "'a''b'", "'a' 'b'", "5'a'"):
            for text in ("cells 2\nrule\nlet add %s 5\nfirst one\nsecond two",
                         "cells 2\nrule\nlet add 5 %s\nfirst one\nsecond two",
                         "cells 2\nrule\nlet digit 0 %s\nfirst one\nsecond two",
                         "cells 2\nrule\nfirst if %s : one : two\nsecond two"):
                self.bad(text % part)
        for part in ("one.24", "9" * 401, "'a", "let.0", "-0", "x", "one", "''''", ":"):
            self.bad("cells 2\nrule\nfirst new %s\nsecond two" % part)

    def test_wrong_lines(self):
        for line in ("let", "let ", "let add", "let add 1", "let add 1 1 1", "let if 1 1", "let if 1 1 1 1",
                     "let digit 1", "let digit 13 1", "let digit 00 1", "let digit -0 1", "let digit -1 1",
                     "let digit one.0 1", "let digit 'a' 1", "let digit 1 1 1", "let digit", "let new 1", "let one",
                     "let 'add' 1 1", "let  add 1 1", "let add  1 1", "let add 1  1", "let add 1 1 ", " let add 1 1",
                     "Let add 1 1", "let Add 1 1", "let add 1,1", "let add let.0 1"):
            self.bad("cells 2\nrule\n" + line + "\nfirst one\nsecond two\nstep 0 1 0")
        for rule in ("", " ", "one.0", "one ", "one two", "two one.0", "'one'", "One", "new ", "new  1", "New", "new,",
                     "new" + " 1" * 25, "if", "if 1", "if 1 :", "if 1 : one", "if 1 : one :", "if 1 : one : two :",
                     "if : one : two", "if 1 one : two", "if 1 : one two", "if 1: one : two", "if 1 :one : two",
                     "if 1  : one : two", "if 1 2 : one : two", "if 1 : : two", "if 1 : one : if 1 : one : two",
                     "if 1 : new ' : ' : two : one", "add 1 1", "let.0"):
            self.bad("cells 2\nrule\nfirst " + rule + "\nsecond two\nstep 0 1 0")
            self.bad("cells 2\nrule\nfirst two\nsecond " + rule + "\nstep 0 1 0")
        for step in ("step", "step ", "step 0", "step 0 1", "step 0 1 0 0", "step 0 0 0", "step 0 2 0", "step 2 0 0",
                     "step 0 1 1", "step 0 1 -1", "step 0 1 -0", "step 00 1 0", "step 0  1 0", "step 0 1 0 ",
                     " step 0 1 0", "Step 0 1 0", "step 0 one 0", "step '0' 1 0", "step 0,1,0", "", "rule", "x"):
            self.bad("cells 2\nrule\nfirst one\nsecond two\n" + step)

    def test_lines_in_another_order(self):
        lines = RIGHT.split("\n")
        for one in range(len(lines)):
            for other in range(one):
                exchanged = list(lines)
                exchanged[one], exchanged[other] = exchanged[other], exchanged[one]
                self.bad("\n".join(exchanged))

    def test_lines_that_may_not_stand_twice(self):
        lines = RIGHT.split("\n")
        for place in (0, 1, 3, 4):
            self.bad("\n".join(lines[:place + 1] + lines[place:]))

    def test_lines_twice_that_may_be(self):
        lines = RIGHT.split("\n")
        for place in (2, 5):
            doubled = "\n".join(lines[:place + 1] + lines[place:])
            self.told(program_text(read_program(doubled)), doubled)

    def test_each_sign_counts(self):
        self.told(program_text(read_program(RIGHT)), RIGHT)
        for place in range(len(RIGHT) + 1):
            for sign in " \n.:'-07aA":
                for value in (RIGHT[:place] + sign + RIGHT[place:], RIGHT[:place] + sign + RIGHT[place + 1:],
                              RIGHT[:place] + RIGHT[place + 1:]):
                    try:
                        self.told(program_text(read_program(value)), value)
                    except BadText:
                        continue

    def test_two_blanks_and_ends(self):
        for place, sign in enumerate(RIGHT):
            if sign == " " and RIGHT[place - 1:place + 2] != "a b":
                self.bad(RIGHT[:place] + " " + RIGHT[place:])
            if sign == "\n":
                self.bad(RIGHT[:place] + "\n" + RIGHT[place:])
                self.bad(RIGHT[:place] + " " + RIGHT[place:])
        for text in (RIGHT + "\n", RIGHT + " ", "\n" + RIGHT, " " + RIGHT, RIGHT + "\n\n", RIGHT + "\nx"):
            self.bad(text)

    def test_what_is_no_string(self):
        for value in (None, True, 5, (), ("cells 1",), ["cells 1"], {}, (1, (), ()), (2, (GATE,), ((0, 1, 0),))):
            self.bad(value)

    def test_any_value(self):
        for value in any_values(24, (RIGHT, "cells 1", (2, (GATE,), ())) + LIKE_RULES, 500):
            try:
                self.told(program_text(read_program(value)), value)
            except BadText:
                continue

    def test_what_holds(self):
        chance = random.Random(8)
        seen = {}
        for _ in range(600):
            program = random_program(chance, chance.randrange(2, 20))
            text = self.calls(program_text, (program,))
            self.told(self.calls(read_program, (text,)), program)
            self.told(seen.setdefault(text, program), program)

    def test_calls(self):
        self.calls(read_program, (RIGHT,))
        self.told(program_text(program=read_program(value=RIGHT)), RIGHT)
