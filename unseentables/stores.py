"""Stores: tables by names, and statements that are done as programs over one memory."""

from unseentables.bounds import MAX_EDITS
from unseentables.deeds import deed
from unseentables.errors import Full
from unseentables.grounds import bare_ground
from unseentables.plans import columns_of
from unseentables.programs import touches
from unseentables.refusals import refuse
from unseentables.running import run
from unseentables.statements import read_statement


class Store:
    """Tables, and what was done with them."""

    def __init__(self):
        self.catalog = ()
        self.tables = ()
        self.log = ()
        self.memory = ()
        self.starts = ()
        self.programs = ()
        self.touches = ()
        self.results = ()
        self.ground = bare_ground()

    def do(self, statement):
        """Does statement and returns its answer; raises, and changes nothing, if it can not be done."""
        refuse(self.ground, statement)
        if len(self.log) == MAX_EDITS:
            raise Full()
        program, result, ground = deed(self.ground, statement)
        memory = run(program, self.memory + ((0,),) * (program[0] - len(self.memory)))
        self.ground = ground
        self.catalog, self.starts = ground.catalog, ground.starts
        self.memory = memory[:ground.cells]
        self.tables = _tables_in(memory, ground)
        self.log += (statement,)
        self.programs += (program,)
        self.touches += (touches(program),)
        self.results += (result,)
        return _answer(ground.catalog, statement, result, memory)

    def say(self, value):
        """Does the statement of which value is the text, and returns its answer."""
        return self.do(read_statement(self.catalog, value))


def _tables_in(memory, ground):
    """The tables that lie in memory as ground tells."""
    found = []
    for (_, columns, room), start in zip(ground.catalog, ground.starts):
        found.append((columns, _rows_in(memory[start:start + room])))
    return tuple(found)


def _rows_in(records):
    """The rows that are here among records, in order."""
    return tuple([record[1:] for record in records if record[0] == 1])


def _answer(catalog, statement, result, memory):
    """The answer to statement, which its program has left in the cells of result."""
    word = statement[0]
    if result is None:
        return ("done",)
    found, flag = result
    if memory[flag][0] == 1:
        return ("full",) if word == "put" else ("over",)
    if word == "put":
        return ("done",)
    if word == "ask":
        return "rows", columns_of(catalog, statement[1]), _rows_in([memory[cell] for cell in found])
    return "count", memory[found[0]][0]
