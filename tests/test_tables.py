"""Columns, rows and tables."""

from support import Case, ODD, any_values
from unseentables.tables import columns_error, row_error, table_error

PEOPLE = (("who", "text"), ("age", "number"))
EIGHT = tuple([(name, "number") for name in "abcdefgh"])
BIG = 10 ** 12


class Columns(Case):
    def test_example(self):
        values = (PEOPLE, (("a", "number"),) * 1, (), list(PEOPLE), (("a", "number"),) * 2,
                  (("a", "number"), ("a", "bit")), (("a",),), PEOPLE * 5)
        self.told([columns_error(value) for value in values],
                  [None, None, "form", "form", ("twice", 1), ("column", 1), ("column", 0), "form"])

    def test_form(self):
        self.told(columns_error(EIGHT), None)
        self.told(columns_error(EIGHT + (("i", "text"),)), "form")
        for value in (None, True, 2, "who", "", {}, {"who": "text"}, [], (), (None,) * 9, EIGHT + EIGHT):
            self.told(columns_error(value), "form")

    def test_column(self):
        for item in (None, True, 5, "ab", (), ("a",), ["a", "text"], ("a", "text", "text"), ("A", "text"),
                     ("", "text"), ("abcdefghi", "text"), ("select", "text"), ("a", "truth"), ("a", "Text"),
                     ("a", None), ("a", ["text"]), (["a"], "text"), ("text", "a"), ("a\n", "text"), ("a", "text\n")):
            self.told(columns_error((item,)), ("column", 0))
            self.told(columns_error(EIGHT[:7] + (item,)), ("column", 7))
            self.told(columns_error((EIGHT[0], item, item)), ("column", 1))

    def test_twice(self):
        self.told(columns_error((("a", "text"), ("b", "text"), ("a", "number"))), ("twice", 2))
        self.told(columns_error((("a", "text"), ("b", "text"), ("b", "text"), ("a", "text"))), ("twice", 2))

    def test_two_faults(self):
        self.told(columns_error((("a", "text"), ("a", "text"), None)), ("column", 2))
        self.told(columns_error((("a", "text"),) * 9), "form")
        self.told(columns_error((None,) * 9), "form")

    def test_any_value(self):
        for value in any_values(3, (PEOPLE, EIGHT, (("a", "number"),)), 700):
            error = columns_error(value)
            if error is None or error == "form":
                continue
            word, place = error
            self.assertIn(word, ("column", "twice"))
            self.assertTrue(0 <= place < len(value))

    def test_calls(self):
        for value in (PEOPLE, EIGHT, (), list(PEOPLE), PEOPLE * 2, (None,), {"a": []}):
            self.calls(columns_error, (value,))
        self.told(columns_error(value=PEOPLE), None)


class Rows(Case):
    def test_example(self):
        values = (("ann", 30), ("", 0), ("ann",), ["ann", 30], (30, "ann"), ("ann", True), ("ann", BIG + 1),
                  ("Ann", 30), ("a" * 13, 30))
        self.told([row_error(PEOPLE, value) for value in values],
                  [None, None, "form", "form", ("value", 0), ("value", 1), ("value", 1), ("value", 0), ("value", 0)])

    def test_numbers(self):
        columns = (("n", "number"),)
        for value in (0, 1, -1, BIG, -BIG):
            self.told(row_error(columns, (value,)), None)
        for value in (BIG + 1, -BIG - 1, 10 ** 399, True, False, None, "1", "", (1,), [1], {}):
            self.told(row_error(columns, (value,)), ("value", 0))

    def test_texts(self):
        columns = (("t", "text"),)
        for value in ("", " ", "a", "z", "0", "9", "a" * 12, " " * 12, "ab 12 yz"):
            self.told(row_error(columns, (value,)), None)
        for value in ("a" * 13, " " * 13, "A", "a\n", "\n", "'", "a-b", "_", "a,b", None, 5, True, ("a",), ["a"]):
            self.told(row_error(columns, (value,)), ("value", 0))
        for place in range(128):
            right = chr(place) in "abcdefghijklmnopqrstuvwxyz0123456789 "
            self.told(row_error(columns, ("a" + chr(place),)), None if right else ("value", 0))

    def test_form_ahead_of_value(self):
        for value in (("ann", 30, 1), (30,), (), None, 5, "ab", ["ann", 30], {}, (True, True, True), {"who": 1}):
            self.told(row_error(PEOPLE, value), "form")

    def test_first_place(self):
        self.told(row_error(EIGHT, (1, 2, 3, "x", 5, None, 7, 8)), ("value", 3))
        self.told(row_error(EIGHT, (1, 2, 3, 4, 5, 6, 7, True)), ("value", 7))
        self.told(row_error(PEOPLE, (True, True)), ("value", 0))

    def test_any_value(self):
        for value in any_values(4, (("ann", 30), ("", 0)), 700):
            self.assertIn(row_error(PEOPLE, value), (None, "form", ("value", 0), ("value", 1)))

    def test_calls(self):
        for value in (("ann", 30), ("ann", True), ["ann", 30], {}):
            self.calls(row_error, (PEOPLE, value))
        self.told(row_error(value=("ann", 30), columns=PEOPLE), None)


class Tables(Case):
    def test_example(self):
        values = ((PEOPLE, (("ann", 30), ("ann", 30))), (PEOPLE, ()), PEOPLE, (PEOPLE,), (PEOPLE, [("ann", 30)]),
                  (PEOPLE, (("ann", 30), ("bob",))), (PEOPLE, (("a", 1),) * 33))
        self.told([table_error(value) for value in values],
                  [None, None, ("columns", ("column", 0)), "form", "rows", ("row", 1, "form"), "rows"])

    def test_form(self):
        for value in (None, True, 5, "ab", [PEOPLE, ()], (PEOPLE, (), ()), (), {}, (PEOPLE,)):
            self.told(table_error(value), "form")

    def test_columns(self):
        for columns in ((), list(PEOPLE), None, EIGHT + (("i", "text"),)):
            self.told(table_error((columns, ())), ("columns", "form"))
        self.told(table_error((PEOPLE * 2, ())), ("columns", ("twice", 2)))
        self.told(table_error(((("a", "number"), ("b", "bit")), ())), ("columns", ("column", 1)))
        self.told(table_error((EIGHT, (tuple(range(8)),))), None)

    def test_rows(self):
        self.told(table_error((PEOPLE, (("a", 1),) * 32)), None)
        for rows in (None, [], "", {}, 0, (("a", 1),) * 33, (None,) * 33):
            self.told(table_error((PEOPLE, rows)), "rows")

    def test_row(self):
        right = ("ann", 30)
        self.told(table_error((PEOPLE, (right, right, ("Ann", 30), None))), ("row", 2, ("value", 0)))
        self.told(table_error((PEOPLE, (right,) * 31 + (("ann", BIG + 1),))), ("row", 31, ("value", 1)))
        self.told(table_error((PEOPLE, ((),))), ("row", 0, "form"))
        self.told(table_error((PEOPLE, (list(right),))), ("row", 0, "form"))

    def test_two_faults(self):
        self.told(table_error((PEOPLE * 2, None)), ("columns", ("twice", 2)))
        self.told(table_error((None, None, None)), "form")
        self.told(table_error((PEOPLE, [None])), "rows")
        self.told(table_error((PEOPLE, (("ann", None), None))), ("row", 0, ("value", 1)))

    def test_any_value(self):
        right = ((PEOPLE, (("ann", 30), ("", -4))), (EIGHT, ()), (PEOPLE, (("a", 1),) * 32))
        for value in any_values(5, right, 900):
            error = table_error(value)
            if error is None or error == "form":
                continue
            if error == "rows":
                self.assertFalse(isinstance(value[1], tuple) and len(value[1]) < 33)
            elif error[0] == "columns":
                self.told(error, ("columns", columns_error(value[0])))
            else:
                self.told(error, ("row", error[1], row_error(value[0], value[1][error[1]])))

    def test_calls(self):
        for value in ((PEOPLE, (("ann", 30),)), (PEOPLE, []), ODD[-1], PEOPLE):
            self.calls(table_error, (value,))
        self.told(table_error(value=(PEOPLE, ())), None)
