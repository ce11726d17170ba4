"""What programs are made with."""

from support import Case
from unseentables import bounds
from unseentables.makings import WIDTH, Lets, Making
from unseentables.programs import program_error

ONE, TWO = ("one",), ("two",)


class Makings(Case):
    def test_width(self):
        self.told(WIDTH, bounds.MAX_FIELDS - 2)

    def test_nothing_made(self):
        self.told(Making(3).program(), (4, (), ()))

    def test_rules_are_shared(self):
        making = Making(2)
        making.step(0, 1, ((), ONE, TWO))
        making.step(1, 0, ((), TWO, ONE))
        making.step(0, 2, ((), ONE, TWO))
        self.told(making.program(), (3, (((), ONE, TWO), ((), TWO, ONE)), ((0, 1, 0), (1, 0, 1), (0, 2, 0))))
        self.told(program_error(making.program()), None)

    def test_fresh_cells(self):
        making = Making(2)
        self.told([making.carrier, making.fresh(2), making.fresh(0), making.fresh(1)], [2, (3, 4), (), (5,)])
        self.told(making.program()[0], 6)

    def test_lets(self):
        lets = Lets()
        self.told(lets.let("add", ("one", 0), ("put", 1)), ("let", 0))
        self.told(lets.let("digit", 3, ("let", 0)), ("let", 1))
        self.told(lets.rule(ONE, TWO), ((("add", ("one", 0), ("put", 1)), ("digit", 3, ("let", 0))), ONE, TWO))
