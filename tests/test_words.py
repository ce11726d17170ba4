"""Names and keywords."""

import random

from support import Case, ODD, any_values
from unseentables.words import KEYWORDS, is_name

TOLD = (
    "and append as ask back by change count distinct down drop else first from greatest group having if into join "
    "keep least less make mark meet not number numbered on or order pairs put room running select strike sum text "
    "then to up values where with within without"
).split()


class Names(Case):
    def test_keywords(self):
        self.told(KEYWORDS, tuple(TOLD))
        self.assertEqual(sorted(KEYWORDS), list(KEYWORDS))
        self.assertEqual(len(set(KEYWORDS)), len(KEYWORDS))

    def test_example(self):
        values = ("age", "a", "abcdefgh", "abcdefghi", "", "Age", "a1", "select", "number", 7)
        self.told([is_name(value) for value in values],
                  [True, True, True, False, False, False, False, False, False, False])

    def test_each_letter_is_a_name(self):
        for letter in "abcdefghijklmnopqrstuvwxyz":
            self.told(is_name(letter), True)
            self.told(is_name(letter * 8), True)
            self.told(is_name(letter * 9), False)

    def test_no_keyword_is_a_name(self):
        for word in TOLD:
            self.told(is_name(word), False)
        for word in ("ands", "an", "selec", "selects", "le", "strikes", "withi", "ors", "table", "where a"[:5] + "s"):
            self.told(is_name(word), True)

    def test_other_signs(self):
        for place in range(128):
            sign = chr(place)
            if not "a" <= sign <= "z":
                for value in (sign, "a" + sign, sign + "a", "ab" + sign + "cd"):
                    with self.subTest(value):
                        self.told(is_name(value), False)

    def test_what_is_no_string(self):
        for value in (None, True, False, 0, 1, 97, (), ("a",), ["a"], {}, {"a": 1}, b"a", 10 ** 399):
            self.told(is_name(value), False)

    def test_any_value(self):
        for value in any_values(1, ("age", ("age", "who")), 500):
            self.assertIn(is_name(value), (True, False))
        self.told([value for value in ODD if is_name(value)], ["a", "age", "table", "many"])

    def test_calls(self):
        chance = random.Random(2)
        for value in chance.sample(ODD, 30):
            self.calls(is_name, (value,))
        self.told(is_name(value="age"), True)
