"""A shell: it takes lines and tells texts, and never raises anything."""

from unseentables.errors import BadPlan, BadQuestion, BadTable, Full, NoMark, NoName, Taken, TooMany, Unfit
from unseentables.planframes import entry_of
from unseentables.stores import Store
from unseentables.tables import place_at
from unseentables.tabletexts import grid

SHOW = ".show "


class Shell:
    """A store, and what a person says to it."""

    def __init__(self):
        self.store = Store()

    def say(self, line):
        """The text that tells what comes of line, which may be any value."""
        if not isinstance(line, str):
            return "error BadQuestion"
        if line.startswith("."):
            return self.told(line)
        asked = line.startswith("select") or line.startswith("(")
        return self.done("ask " + line if asked else line)

    def script(self, lines):
        """What say tells of each of lines, one behind another."""
        return tuple([self.say(line) for line in lines])

    def told(self, line):
        """The text of a line of the shell itself, which changes nothing."""
        if line == ".tables":
            return self.list_of_tables()
        if line.startswith(SHOW):
            return self.table_told(line[len(SHOW):])
        if line == ".touches":
            return str(sum([len(pairs) for pairs in self.store.touches]))
        if line == ".log":
            return "\n".join([statement[0] for statement in self.store.log])
        return "error BadQuestion"

    def list_of_tables(self):
        """A line for each table: its name, how many rows it has, and its room."""
        lines = []
        for (name, _, room), table in zip(self.store.catalog, self.store.tables):
            lines.append(f"{name} {len(table[1])}/{room}")
        return "\n".join(lines) if len(lines) > 0 else "no tables"

    def table_told(self, name):
        """The table of this name, as a person reads it."""
        if entry_of(self.store.catalog, name) is None:
            return "error NoName"
        columns, rows = self.store.tables[place_at(self.store.catalog, name)]
        return grid(columns, rows)

    def done(self, text):
        """The text that tells what the store answers to text."""
        # Each error has its own word; no other error is raised by a store.
        try:
            return _answer_text(self.store.say(text))
        except Unfit:
            return "error Unfit"
        except BadTable:
            return "error BadTable"
        except BadPlan:
            return "error BadPlan"
        except BadQuestion:
            return "error BadQuestion"
        except TooMany:
            return "error TooMany"
        except NoName:
            return "error NoName"
        except Taken:
            return "error Taken"
        except NoMark:
            return "error NoMark"
        except Full:
            return "error Full"


def _answer_text(answer):
    if answer[0] == "rows":
        return grid(answer[1], answer[2])
    if answer[0] == "count":
        return "1 row" if answer[1] == 1 else f"{answer[1]} rows"
    return answer[0]
