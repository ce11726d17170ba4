"""Texts of tables, and grids."""

import random

from makers import random_rows
from support import Case, any_values
from unseentables.errors import BadText
from unseentables.tabletexts import grid, read_table, table_text

PEOPLE = (("who", "text"), ("age", "number"))
NUMBERS = (("a", "number"),)
TEXTS = (("t", "text"),)
BIG = 10 ** 12


class TableTexts(Case):
    def test_texts(self):
        self.told(table_text((PEOPLE, (("ann", 30), ("", -4)))), "who text, age number\n'ann', 30\n'', -4")
        self.told(table_text((PEOPLE, ())), "who text, age number")
        self.told(table_text((NUMBERS, ((BIG,), (-BIG,), (0,)))), "a number\n1000000000000\n-1000000000000\n0")
        self.told(table_text((TEXTS, ((" a ",), ("",), ("  ",)))), "t text\n' a '\n''\n'  '")

    def test_each_table_is_read_back(self):
        chance = random.Random(1)
        for _ in range(300):
            columns = tuple([(name, chance.choice(("number", "text")))
                             for name in chance.sample("abcdefgh", chance.randrange(1, 9))])
            table = (columns, random_rows(chance, columns, chance.choice((0, 1, 2, 32))))
            text = table_text(table)
            self.told(read_table(text), table)
            self.assertEqual(text.count("\n"), len(table[1]))

    def test_edges_are_read_back(self):
        for table in ((NUMBERS, ((BIG,), (-BIG,), (0,))), (TEXTS, (("a" * 12,), ("",), (" " * 12,), ("number",))),
                      (PEOPLE, (("x y", 0),) * 32), ((("abcdefgh", "text"),), ())):
            self.told(read_table(table_text(table)), table)

    def test_unlike_tables_have_unlike_texts(self):
        tables = ((NUMBERS, ()), (NUMBERS, ((1,),)), (NUMBERS, ((1,), (1,))), (NUMBERS, ((-1,),)), (TEXTS, ()),
                  (TEXTS, (("",),)), (TEXTS, ((" ",),)), (TEXTS, (("1",),)), (PEOPLE, ()), (PEOPLE[:1], ()))
        self.assertEqual(len({table_text(table) for table in tables}), len(tables))

    def test_texts_of_none(self):
        for value in (
                "", "\n", " ", "a", "a number\n", "a number\n\n5", "\na number", "a number\n5\n", "a number \n5",
                " a number", "a  number", "a number\n05", "a number\n-0", "a number\n00", "a number\n-05",
                "a number\n+5", "a number\n--5", "a number\n5-", "a number\n-", "a number\n5 ", "a number\n 5",
                "a number\n5,", "a number\n5, 6", "a number\n5.0", "a number\n'5'", "a number\n5_0",
                "a number\n1000000000001", "a number\n-1000000000001", "a number\n" + "9" * 5000,
                "a number\r\n5", "a number\tx", "a Number", "a truth", "A number", "select number", "number number",
                "abcdefghi text", "a number, a text", "a number, a text\n5, 'x'", "a number,b text", "a number, ",
                "a number,  b text", "a text\nx", "a text\n'x", "a text\nx'", "a text\n''x", "a text\n'X'",
                "a text\n'" + "a" * 13 + "'", "a text\n5", "a text\n\"x\"", "a text\n'a,b'", "a text\n'a, b'",
                "a text\n'''", "a text\n' ", "a text\n'", "a number, b text\n5", "a number, b text\n5,'x'",
                "a number, b text\n5, 'x', 6", "a number, b text\n'x', 5", "a number" + "\n5" * 33,
                ", ".join([name + " text" for name in "abcdefghi"]), "a number;b text", "a", "a ", " number"):
            with self.subTest(value[:40]):
                self.refuses(BadText, {}, read_table, (value,))

    def test_each_sign_counts(self):
        right = "who text, age number\n'an n', 30\n'', -4"
        for place in range(len(right) + 1):
            for sign in " \n,'-0aA":
                for value in (right[:place] + sign + right[place:], right[:place] + sign + right[place + 1:],
                              right[:place] + right[place + 1:]):
                    if value != right:
                        self.told(self.read_or_none(value), value)

    def read_or_none(self, value):
        """value, if it is refused or the text of what it is read to."""
        try:
            return table_text(read_table(value))
        except BadText:
            return value

    def test_what_is_no_string(self):
        for value in (None, True, 5, (), ("a number",), ["a number"], {}, {"a number": 1}, (NUMBERS, ())):
            self.refuses(BadText, {}, read_table, (value,))

    def test_any_value(self):
        right = (table_text((PEOPLE, (("ann", 30),))), (PEOPLE, (("ann", 30),)), "a number\n5", "a number")
        for value in any_values(6, right, 500):
            try:
                self.assertEqual(table_text(read_table(value)), value)
            except BadText:
                continue

    def test_calls(self):
        table = (PEOPLE, (("ann", 30), ("", -4)))
        self.calls(table_text, (table,))
        self.calls(read_table, (table_text(table),))
        self.told(read_table(value=table_text(table=table)), table)


class Grids(Case):
    def test_example(self):
        self.told(grid(PEOPLE, (("ann", 30), ("barbara", -4))),
                  "who      age\n-------  ---\nann       30\nbarbara   -4\n(2 rows)")

    def test_numbers_of_any_size(self):
        columns = (("age", "number"), ("who", "text"))
        self.told(grid(columns, ((10 ** 15, "x"),)),
                  "             age  who\n----------------  ---\n1000000000000000  x\n(1 row)")
        lines = grid(columns, ((-10 ** 500, ""), (7, "ann b"))).split("\n")
        self.told(lines, [" " * 499 + "age  who", "-" * 502 + "  -----", "-1" + "0" * 500, " " * 501 + "7  ann b",
                          "(2 rows)"])

    def test_blanks(self):
        self.told(grid((("who", "text"),), ((" a ",), ("",))), "who\n---\n a\n\n(2 rows)")
        self.told(grid((("t", "text"), ("u", "text")), (("   ", " "), (" ", "  "))), "t    u\n---  --\n\n\n(2 rows)")
        self.told(grid((("t", "text"), ("n", "number")), (("  ", 5),)), "t   n\n--  -\n    5\n(1 row)")

    def test_no_row_and_one_row(self):
        self.told(grid(PEOPLE, ()), "who  age\n---  ---\n(0 rows)")
        self.told(grid(NUMBERS, ()), "a\n-\n(0 rows)")
        self.told(grid(NUMBERS, ((0,),)), "a\n-\n0\n(1 row)")

    def test_names_longer_than_values(self):
        columns = (("abcdefgh", "number"), ("ijklmnop", "text"), ("z", "number"))
        self.told(grid(columns, ((1, "x", 2), (-10, "", 30))),
                  "abcdefgh  ijklmnop   z\n--------  --------  --\n       1  x          2\n     -10            30\n(2 rows)")

    def test_name_at_the_end_keeps_no_blanks(self):
        self.told(grid((("a", "text"),), (("long word",),)), "a\n---------\nlong word\n(1 row)")

    def test_lines(self):
        chance = random.Random(4)
        for many in (0, 1, 2, 3, 32, 100):
            text = grid(PEOPLE, random_rows(chance, PEOPLE, many))
            self.assertEqual(len(text.split("\n")), many + 3)
            self.assertEqual(text.split("\n")[-1], "(1 row)" if many == 1 else "(" + str(many) + " rows)")

    def test_calls(self):
        self.calls(grid, (PEOPLE, (("ann", 30), ("", -4))))
        self.told(grid(rows=(), columns=NUMBERS), "a\n-\n(0 rows)")
