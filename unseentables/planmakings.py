"""Programs of plans in the making."""

from unseentables.makings import HERE, TWO, UNIT, Making


class PlanMaking(Making):
    """A program in the making that knows where the tables lie, and says in one cell whether a node is over."""

    def __init__(self, catalog, starts, held):
        """The table of each triple of catalog lies from its start on; all tables lie ahead of the cell held."""
        super().__init__(held)
        self.catalog = catalog
        self.starts = starts
        self.over = self.fresh(1)[0]

    def table_cells(self, name):
        """The cells of the table of this name."""
        place = [entry[0] for entry in self.catalog].index(name)
        start = self.starts[place]
        return tuple(range(start, start + self.catalog[place][2]))

    def say_over(self, cell, lets, beyond):
        """Lets over be 1 if beyond, which lets tell of cell as the second one, is not 0; what is 1 stays so."""
        said = lets.let("if", HERE, UNIT, beyond)
        self.step(self.over, cell, lets.rule(("new", (said,)), TWO))
