"""Plans as programs that touch the same cells whatever the tables hold."""

from unseentables.digits import digits_of
from unseentables.errors import Over
from unseentables.nodeareas import plan_area
from unseentables.planmakings import PlanMaking
from unseentables.plannodes import plans_in
from unseentables.plans import room_of
from unseentables.running import run


def compiled(catalog, plan):
    """A right task of catalog and plan."""
    starts, held = [], 0
    for entry in catalog:
        starts.append(held)
        held += entry[2]
    making = PlanMaking(catalog, tuple(starts), held)
    answer = plan_area(making, plan)
    return making.program(), making.starts, answer, making.over


def step_limit(catalog, plan):
    """How many steps the program of compiled has at the most."""
    total = 0
    for size in _sizes(catalog, plan):
        digits = digits_of(size)
        total += 6 * size * (digits + 1) * (digits + 1)
    return total


def cell_limit(catalog, plan):
    """How many cells the program of compiled has at the most."""
    return sum([entry[2] for entry in catalog]) + sum([4 * size + 8 for size in _sizes(catalog, plan)])


def loaded(catalog, tables, task):
    """The memory into which tables are loaded."""
    program, starts, _, _ = task
    memory = [(0,)] * program[0]
    for start, table in zip(starts, tables):
        for place, row in enumerate(table[1]):
            memory[start + place] = (1,) + row
    return tuple(memory)


def answered(task, memory):
    """The rows of the answer in memory, as the program of task has left it."""
    _, _, answer, over = task
    if memory[over][0] == 1:
        raise Over(())
    records = [memory[cell] for cell in answer]
    return tuple([record[1:] for record in records if record[0] == 1])


def ask(catalog, tables, plan):
    """The rows that come of plan, by its program."""
    task = compiled(catalog, plan)
    return answered(task, run(task[0], loaded(catalog, tables, task)))


def _sizes(catalog, plan):
    """For each node of plan its room and the rooms straight beneath it, together."""
    below = plans_in(plan)
    found = [room_of(catalog, plan) + sum([room_of(catalog, part) for part in below])]
    for part in below:
        found.extend(_sizes(catalog, part))
    return found
