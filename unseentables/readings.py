"""Pieces of a text, read one behind another."""

from unseentables.bounds import MAX_NEST
from unseentables.errors import BadQuestion


class Reading:
    """Where the reading of pieces stands, and how many of those that can be nested are open."""

    def __init__(self, found):
        self.found = found
        self.place = 0
        self.nest = 0

    def refuse(self):
        """Nothing can go on with the next piece, or with none."""
        raise BadQuestion(("word", self.place))

    def is_sort(self, *sorts):
        """Whether the next piece is of one of these sorts."""
        return self.place < len(self.found) and self.found[self.place][0] in sorts

    def is_next(self, *words):
        """Whether the next piece is one of these keywords and signs."""
        return self.is_sort("keyword", "sign") and self.found[self.place][1] in words

    def take(self):
        """What the next piece is; the reading goes on behind it."""
        self.place += 1
        return self.found[self.place - 1][1]

    def taken(self, sort):
        """What the next piece is, which has to be of this sort."""
        if not self.is_sort(sort):
            self.refuse()
        return self.take()

    def takes(self, word):
        """Whether the next piece is this keyword or sign; if so the reading goes on behind it."""
        if not self.is_next(word):
            return False
        self.place += 1
        return True

    def expect(self, *words):
        """The next pieces have to be these keywords and signs."""
        for word in words:
            if not self.takes(word):
                self.refuse()

    def listed(self, inner):
        """What inner reads, once or more often, with a comma between two."""
        found = [inner(self)]
        while self.takes(","):
            found.append(inner(self))
        return tuple(found)

    def enter(self):
        """The next piece, which is open from here on."""
        if self.nest == MAX_NEST:
            self.refuse()
        self.nest += 1
        self.place += 1

    def leave(self):
        """The last piece that was entered is open no more."""
        self.nest -= 1

    def end(self):
        """No piece may be left."""
        if self.place < len(self.found):
            self.refuse()


def name_of(reading):
    """The name that has to be the next piece."""
    return reading.taken("name")


def number_of(reading):
    """The number that has to be the next piece."""
    return reading.taken("number")
