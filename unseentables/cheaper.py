"""Plans told line by line, and plans that mean the same by fewer steps."""

from unseentables.compiling import step_limit
from unseentables.expressions import has_many_parts, put_in
from unseentables.plannodes import plans_in
from unseentables.plans import room_of

# For each word the places of those of its plans whose order makes no difference,
ORDERLESS = {"distinct": (1,), "group": (3,), "less": (1, 2), "meet": (1, 2), "with": (3,), "without": (3,)}
# and of those in which it makes no difference how often a row stands.
ONCE = {"distinct": (1,), "less": (1, 2), "meet": (1, 2), "with": (3,), "without": (3,)}
# The words that make no two rows alike, and all of them ascending.
UNLIKE = ("group", "less", "meet")


def explained(catalog, plan):
    """A text with a line for each node of plan: its word, its room, and how many steps it takes at the most."""
    return "\n".join(_lines(catalog, plan, ""))


def cheaper(catalog, plan):
    """The plan that comes of plan, as long as one of the shapes stands in it."""
    found = plan
    while found is not None:
        plan = found
        found = _replaced_once(catalog, plan)
    return plan


def _lines(catalog, plan, ahead):
    found = [f"{ahead}{plan[0]} {room_of(catalog, plan)} {step_limit(catalog, plan)}"]
    for part in plans_in(plan):
        found.extend(_lines(catalog, part, ahead + "  "))
    return found


def _replaced_once(catalog, plan):
    """plan with the first node replaced at which a shape stands; None if there is none."""
    below = plans_in(plan)
    for place, part in enumerate(below):
        found = _replaced_once(catalog, part)
        if found is not None:
            return _put_at(plan, len(plan) - len(below) + place, found)
    for shape in SHAPES:
        found = shape(catalog, plan)
        if found is not None:
            return found
    return None


def _put_at(plan, place, item):
    return plan[:place] + (item,) + plan[place + 1:]


def _is_twice(plan, word):
    """Whether plan is a node of this word straight on another one."""
    return plan[0] == word and plan[2][0] == word


def _two_wheres(catalog, plan):
    if not _is_twice(plan, "where"):
        return None
    both = ("and", plan[2][1], plan[1])
    return None if has_many_parts(both) else ("where", both, plan[2][2])


def _two_limits(catalog, plan):
    if not _is_twice(plan, "first") and not _is_twice(plan, "keep"):
        return None
    return plan[0], min(plan[1], plan[2][1]), plan[2][2]


def _limit_of_no_use(catalog, plan):
    if plan[0] not in ("first", "keep") or plan[1] < room_of(catalog, plan[2]):
        return None
    return plan[2]


def _two_gives(catalog, plan):
    if not _is_twice(plan, "give"):
        return None
    items = tuple([(name, put_in(expression, plan[2][1])) for name, expression in plan[1]])
    if any([has_many_parts(expression) for _, expression in items]):
        return None
    return "give", items, plan[2][2]


def _two_orders(catalog, plan):
    if not _is_twice(plan, "order"):
        return None
    names = [name for name, _ in plan[1]]
    return "order", plan[1] + tuple([key for key in plan[2][1] if key[0] not in names]), plan[2][2]


def _order_of_no_use(catalog, plan):
    return _without(plan, ORDERLESS.get(plan[0], ()), "order")


def _distinct_of_no_use(catalog, plan):
    return _without(plan, ONCE.get(plan[0], ()), "distinct")


def _distinct_of_unlike_rows(catalog, plan):
    if plan[0] != "distinct" or plan[1][0] not in UNLIKE:
        return None
    return plan[1]


def _without(plan, places, word):
    """plan with the plan beneath in the place of the first node of this word at one of places; None if none is."""
    for place in places:
        if plan[place][0] == word:
            return _put_at(plan, place, plan[place][-1])
    return None


SHAPES = (
    _two_wheres, _two_limits, _limit_of_no_use, _two_gives, _two_orders, _order_of_no_use, _distinct_of_no_use,
    _distinct_of_unlike_rows,
)
