"""Programs and rules in the making."""

# MAX_FIELDS less 2: records of at most so many fields leave two that a program can use for itself.
WIDTH = 22

# What most rules are made of. A step of most pieces takes a cell of an area first, and then the carrier.
NOUGHT = ("put", 0)
UNIT = ("put", 1)
HERE = ("one", 0)
KEPT = ("two", 0)
ONE = ("one",)
TWO = ("two",)
GONE = ("new", (("put", 0),))


class Making:
    """A program in the making. Its carrier is one cell that goes along areas, the second one of most steps."""

    def __init__(self, held):
        """The cells from 0 to held - 1 are in use from the beginning."""
        self.carrier = held
        self.many = held + 1
        self.places = {}
        self.steps = []

    def fresh(self, many):
        """So many cells that nothing has used so far."""
        first = self.many
        self.many += many
        return tuple(range(first, self.many))

    def step(self, one, other, rule):
        """A step on two cells; a rule that was used ahead is shared."""
        place = self.places.setdefault(rule, len(self.places))
        self.steps.append((one, other, place))

    def beside(self, cells, other, rule):
        """A step on each of cells, one behind another, and the cell other."""
        for cell in cells:
            self.step(cell, other, rule)

    def each(self, cells, rule):
        """A step on each of cells, one behind another, and the carrier."""
        self.beside(cells, self.carrier, rule)

    def walk(self, cells, rule):
        """The same with a carrier that begins as (0,)."""
        self.step(self.carrier, cells[0], ((), GONE, TWO))
        self.each(cells, rule)

    def tell(self, cells, width, lets, told, kept):
        """A walk that writes told behind the first width fields of each record, and keeps kept in the carrier."""
        atoms = field_atoms("one", 0, width) + (told,)
        self.walk(cells, lets.rule(("new", atoms), ("new", (kept,))))

    def form(self, cells, atoms):
        """Makes of each record that of atoms."""
        self.each(cells, ((), ("new", atoms), TWO))

    def form_rows(self, cells, atoms):
        """Makes of each record that is here (1,) and what atoms come to, and (0,) of each one that is gone."""
        self.each(cells, ((), ("if", HERE, ("new", (UNIT,) + atoms), GONE), TWO))

    def cut(self, cells, width):
        """Gives each record just so many fields, 0 for those that it did not have."""
        self.form(cells, field_atoms("one", 0, width))

    def program(self):
        """The program that was made."""
        return self.many, tuple(self.places), tuple(self.steps)


class Lets:
    """The lets of a rule in the making."""

    def __init__(self):
        self.found = []

    def let(self, *parts):
        """One let more; returns the atom of what it comes to."""
        self.found.append(parts)
        return ("let", len(self.found) - 1)

    def alike(self, places):
        """The atom that is 1 if the carrier's record is here and has the same words at all these places, else 0."""
        found = KEPT
        for place in places:
            same = self.let("same", ("one", place), ("two", place))
            found = self.let("if", same, found, NOUGHT)
        return found

    def rule(self, first, second):
        """The rule of these lets and record rules."""
        return tuple(self.found), first, second

    def carried(self, atoms):
        """The rule by which each record that is here becomes that of atoms, and the carrier keeps it; the others go."""
        return self.rule(("if", HERE, ("new", atoms), GONE), ("if", HERE, ("new", atoms), TWO))


def field_atoms(word, start, end):
    """The atoms of the fields from start to end - 1 of the first record, or of the second one."""
    return tuple([(word, place) for place in range(start, end)])
