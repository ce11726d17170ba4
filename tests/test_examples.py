"""The examples that the document tells, from examples.txt: each with just the result that is told there."""

import pathlib

from support import Case
from unseentables import errors

EXAMPLES = pathlib.Path(__file__).resolve().parent / "examples.txt"


def read_examples(text):
    """The triples of the point, the code and the lines told behind it."""
    point, found = "", []
    for line in text.split("\n"):
        if line.startswith("# "):
            point = line[2:]
        elif line.startswith(">>> "):
            found.append((point, line[4:], []))
        elif line:
            found[-1][2].append(line)
    return found


class Examples(Case):
    def test_examples(self):
        names = {}
        for point, code, told in read_examples(EXAMPLES.read_text(encoding="utf-8")):
            with self.subTest(point + " " + code):
                self.one_example(names, code, told)

    def one_example(self, names, code, told):
        if not told:
            exec(code, names)
        elif told[0].startswith("raises "):
            error = eval(told[0][len("raises "):], dict(vars(errors)))
            with self.assertRaises(errors.UnseenError) as caught:
                eval(code, names)
            self.assertIs(caught.exception.__class__, error.__class__)
            self.told(vars(caught.exception), vars(error))
        else:
            self.assertEqual(len(told), 1)
            self.told(eval(code, names), eval(told[0]))

    def test_all_examples_are_read(self):
        found = read_examples(EXAMPLES.read_text(encoding="utf-8"))
        self.assertEqual(sorted({point for point, _, _ in found}),
                         ["[A6]", "[A7]", "[A8]", "[B2]", "[B3]", "[B4]", "[C4]", "[C5]", "[D2]", "[D3]", "[E2]", "[E3]",
                          "[E4]", "[E5]", "[F2]", "[F3]", "[F4]", "[F5]", "[G2]", "[G3]", "[G4]", "[H2]", "[H3]", "[H4]",
                          "[I2]", "[I3]", "[J2]", "[J3]", "[J4]", "[K2]", "[K3]", "[K5]", "[K6]",
                          "[L3]", "[L5]", "[L6]", "[M2]", "[M3]", "[N3]"])
