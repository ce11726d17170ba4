"""Where the tables of a store lie."""


class Ground:
    """Where tables lie, how many cells there are, and what the last mark kept; nothing of what cells hold."""

    def __init__(self, catalog, starts, cells, kept):
        """kept is a pair of a catalog and of starts, or None."""
        self.catalog = catalog
        self.starts = starts
        self.cells = cells
        self.kept = kept


def bare_ground():
    """The ground of a new store."""
    return Ground((), (), 0, None)
