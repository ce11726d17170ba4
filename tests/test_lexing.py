"""Texts cut into pieces."""

import random
import re

from support import Case, any_values
from unseentables.errors import BadQuestion
from unseentables.lexing import pieces
from unseentables.words import KEYWORDS

SIGNS = ("<=", ">=", "<>", "(", ")", ",", "*", "=", "<", ">", "+", "-")
ALPHABET = "aabz019 ''<=>(),*+-\n_.!Aé"
PIECE = re.compile(r"(?P<word>[a-z]+)|(?P<number>[0-9]+)|'(?P<text>[a-z0-9 ]{0,12})'|(?P<sign><=|>=|<>|[(),*=<>+-])")


def slow_pieces(value):
    """The pieces of value, or the place at which there is none."""
    found, place = [], 0
    while place < len(value):
        if value[place] in " \n":
            place += 1
            continue
        match = PIECE.match(value, place)
        if match is None:
            return place
        sort, what = match.lastgroup, match.group(match.lastgroup)
        if sort == "word":
            sort = "keyword" if what in KEYWORDS else "name"
            if sort == "name" and len(what) > 8:
                return place
        elif sort == "number":
            if len(what) > 13 or int(what) > 10 ** 12 or len(what) > 1 and what[0] == "0":
                return place
            what = int(what)
        found.append((sort, what, place))
        place = match.end()
    return tuple(found)


class Pieces(Case):
    def one(self, text, sort, what):
        """text is one piece, also between blanks and behind others."""
        with self.subTest(text):
            self.told(self.calls(pieces, (text,)), ((sort, what, 0),))
            self.told(pieces(" \n" + text + " \n "), ((sort, what, 2),))
            self.told(pieces("( " + text + ","), (("sign", "(", 0), (sort, what, 2), ("sign", ",", 2 + len(text))))

    def bad(self, value, place):
        with self.subTest(str(value)[:60]):
            self.refuses(BadQuestion, {"error": ("sign", place)}, pieces, (value,))

    def test_keywords(self):
        for word in KEYWORDS:
            self.one(word, "keyword", word)

    def test_names(self):
        for word in ("a", "z", "age", "abcdefgh", "zzzzzzzz", "selects", "an", "ands", "if" * 4, "nota"):
            self.one(word, "name", word)

    def test_words_that_are_too_long(self):
        for word in ("abcdefghi", "somewhere", "a" * 20, "a" * 20000, "distincts", "numberedx", "andandand"):
            self.bad(word, 0)
            self.bad("a = " + word + " !", 4)

    def test_numbers(self):
        for number in (0, 1, 7, 10, 99, 120, 10 ** 11, 10 ** 12 - 1, 10 ** 12):
            self.one(str(number), "number", number)

    def test_figures_that_are_no_number(self):
        for text in ("00", "01", "0000", "007", "0" * 13, "1000000000001", "9999999999999", "10000000000000",
                     "1" * 400, "1" * 5000, "9" * 20000, "01000000000000"):
            self.bad(text, 0)
            self.bad("a + " + text, 4)
            self.bad("a" + text + " !", 1)

    def test_texts(self):
        for text in ("", " ", "a", "0", "x y", "and", "07", "  a  ", "abcdefghijkl", "012345678901", " " * 12):
            self.one("'" + text + "'", "text", text)

    def test_texts_that_are_none(self):
        for text in ("'", "'a", "'abcdefghijklm'", "'" + " " * 13 + "'", "'A'", "'a-b'", "'a\nb'", "'a", "'a !'", "'\n'",
                     "'" + "a" * 20000, "'" + "a" * 20000 + "'", "'a(", "'(a)'"):
            self.bad(text, 0)
            self.bad("ab " + text, 3)
        self.bad("'''", 2)
        self.bad("'a''", 3)
        self.bad("'a'b'", 4)

    def test_signs(self):
        for sign in SIGNS:
            self.one(sign, "sign", sign)

    def test_signs_side_by_side(self):
        for text, signs in (("<=>", ("<=", ">")), ("<>=", ("<>", "=")), (">==", (">=", "=")), ("=<", ("=", "<")),
                            ("=>", ("=", ">")), ("><", (">", "<")), ("<<=", ("<", "<=")), ("<><=>=", ("<>", "<=", ">=")),
                            ("()", ("(", ")")), ("*,+-", ("*", ",", "+", "-")), ("--", ("-", "-"))):
            self.told([what for _, what, _ in pieces(text)], list(signs))
            self.told({sort for sort, _, _ in pieces(text)}, {"sign"})

    def test_two_signs_with_a_blank_between(self):
        self.told(pieces("< ="), (("sign", "<", 0), ("sign", "=", 2)))
        self.told(pieces("<\n>"), (("sign", "<", 0), ("sign", ">", 2)))

    def test_pieces_side_by_side(self):
        self.told(pieces("5a"), (("number", 5, 0), ("name", "a", 1)))
        self.told(pieces("a5"), (("name", "a", 0), ("number", 5, 1)))
        self.told(pieces("5and0"), (("number", 5, 0), ("keyword", "and", 1), ("number", 0, 4)))
        self.told(pieces("''''"), (("text", "", 0), ("text", "", 2)))
        self.told(pieces("a'b'7"), (("name", "a", 0), ("text", "b", 1), ("number", 7, 4)))
        self.told(pieces("-7"), (("sign", "-", 0), ("number", 7, 1)))
        self.told(pieces("a<=12"), (("name", "a", 0), ("sign", "<=", 1), ("number", 12, 3)))
        self.told(pieces("selectdi"), (("name", "selectdi", 0),))

    def test_blanks_and_line_feeds(self):
        self.told(pieces(""), ())
        self.told(pieces(" \n \n\n  "), ())
        self.told(pieces("ab c\nd"), (("name", "ab", 0), ("name", "c", 3), ("name", "d", 5)))
        self.told(pieces("1 2"), (("number", 1, 0), ("number", 2, 2)))

    def test_other_signs(self):
        for sign in "!\"#$&./:;?@[\\]^_`{|}~ABZ\t\r":
            self.bad(sign, 0)
            self.bad("age " + sign + " 2", 4)
            self.bad("age" + sign, 3)
        self.bad("Select", 0)
        self.bad("sElect", 1)

    def test_the_first_thing_that_is_no_piece(self):
        self.bad("a ! somewhere", 2)
        self.bad("a somewhere !", 2)
        self.bad("a 'b c 007", 2)

    def test_no_strings(self):
        for value in (None, True, 5, (), ("a",), ["a"], {}, {"a": 1}):
            self.bad(value, 0)

    def test_any_value(self):
        for value in any_values(98, ("a and 5", "'x' = y"), 300):
            if not isinstance(value, str):
                self.bad(value, 0)
                continue
            self.fits(value)

    def fits(self, text):
        """What pieces makes of text is what is told; returns whether it is cut."""
        expected = slow_pieces(text)
        if isinstance(expected, int):
            self.bad(text, expected)
            return False
        self.told(pieces(text), expected)
        return True

    def test_drawn_texts(self):
        chance = random.Random(99)
        cut = 0
        for _ in range(4000):
            text = "".join([chance.choice(ALPHABET) for _ in range(chance.randrange(8))])
            cut += self.fits(text)
        self.assertTrue(500 < cut < 3500)

    def test_drawn_rows_of_pieces(self):
        chance = random.Random(100)
        words = list(KEYWORDS) + list(SIGNS) + ["a", "abc", "0", "15", "1000000000000", "''", "'x 1'", "'abcdefghijkl'"]
        for _ in range(500):
            drawn = [chance.choice(words) for _ in range(chance.randrange(12))]
            text = " ".join(drawn)
            found = pieces(text)
            self.told([text[place:place + len(word)] for (_, _, place), word in zip(found, drawn)], drawn)
            self.told(len(found), len(drawn))
            wider = "".join([chance.choice(("\n", "  ", " \n ")) + word for word in drawn])
            self.told([piece[:2] for piece in pieces(wider)], [piece[:2] for piece in found])

    def test_calls(self):
        self.calls(pieces, ("a <= 5 and 'x' <> b",))
        self.told(pieces(value="a"), (("name", "a", 0),))
