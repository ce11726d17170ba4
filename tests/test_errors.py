"""The errors of the interface."""

from support import Case, ODD
from unseentables import errors

FIELDS = {
    "Unfit": None, "BadText": None, "BadTable": "error", "BadPlan": "error", "BadQuestion": "error", "Over": "way",
    "TooMany": "limit", "NoName": "given", "Taken": "given", "NoMark": None, "Full": None,
}


class Errors(Case):
    def test_bases(self):
        self.assertEqual(errors.UnseenError.__bases__, (ValueError,))
        for name in FIELDS:
            with self.subTest(name):
                self.assertEqual(getattr(errors, name).__bases__, (errors.UnseenError,))

    def test_there_is_no_further_class(self):
        self.assertEqual(sorted([name for name in vars(errors) if name[0] != "_"]), sorted([*FIELDS, "UnseenError"]))

    def test_they_keep_what_they_are_made_with(self):
        for name, field in FIELDS.items():
            kind = getattr(errors, name)
            if field is None:
                self.assertEqual(vars(kind()), {})
                continue
            for value in ODD:
                with self.subTest(name):
                    self.assertIs(getattr(kind(value), field), value)
                    self.assertIs(getattr(kind(**{field: value}), field), value)

    def test_they_can_be_raised_caught_and_told(self):
        for name, field in FIELDS.items():
            kind = getattr(errors, name)
            made = kind() if field is None else kind([1])
            with self.subTest(name):
                with self.assertRaises(errors.UnseenError) as caught:
                    raise made
                self.assertIs(caught.exception, made)
                self.assertIsInstance(str(made), str)
