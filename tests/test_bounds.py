"""The bounds of the interface."""

from support import Case
from unseentables import bounds

TOLD = {
    "MAX_NUMBER": 1000000000000, "MAX_SIGNS": 12, "MAX_COLUMNS": 8, "MAX_ROOM": 32, "MAX_STEP": 64,
    "MAX_TABLES": 6, "MAX_NODES": 12, "MAX_PARTS": 40, "MAX_NEST": 60, "MAX_FIELDS": 24, "MAX_LETS": 64,
    "MAX_CELLS": 16384, "MAX_RULES": 512, "MAX_STEPS": 2000000, "MAX_FIGURES": 400, "MAX_NETWORK": 10,
    "MAX_EDITS": 40,
}


class Bounds(Case):
    def test_each_bound_is_as_told(self):
        for name, value in TOLD.items():
            with self.subTest(name):
                self.told(getattr(bounds, name), value)

    def test_there_is_no_further_bound(self):
        self.assertEqual(sorted([name for name in vars(bounds) if name[0] != "_"]), sorted(TOLD))
