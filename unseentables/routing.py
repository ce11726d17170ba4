"""Drawing records together, and spreading them out, digit by digit of their ways."""

from unseentables.bounds import MAX_STEP
from unseentables.digits import digits_of
from unseentables.errors import Unfit
from unseentables.forms import is_between, is_tuple
from unseentables.makings import HERE, KEPT, NOUGHT, ONE, TWO, UNIT, WIDTH, Lets, Making


def route_error(room, moves):
    """None if behind no digit two things are at one place; otherwise the first digit and the least place."""
    if not _are_moves(room, moves):
        raise Unfit()
    digits = list(range(digits_of(MAX_STEP)))
    if any([goal > place for place, goal in moves]):
        digits.reverse()
    for digit in digits:
        places = [_place_behind(digit, place, goal) for place, goal in moves]
        shared = [place for place in places if places.count(place) > 1]
        if len(shared) > 0:
            return digit, min(shared)
    return None


def drawn_moves(flags):
    """The moves that draw all places with a 1 to the left, together."""
    places = [place for place, flag in enumerate(flags) if flag == 1]
    return tuple([(place, goal) for goal, place in enumerate(places)])


def draw_program(room):
    """The program that draws the records that are here to the first cells, in their order."""
    making = Making(room)
    cells = tuple(range(room))
    draw_area(making, cells, WIDTH)
    making.cut(cells, WIDTH)
    return making.program()


def spread_program(room):
    """The program that spreads the first records, which are here, to the cells that their fields 1 tell."""
    making = Making(room)
    cells = tuple(range(room))
    spread_area(making, cells, WIDTH, 1)
    making.cut(cells, WIDTH)
    return making.program()


def draw_area(making, cells, width):
    """Draws the records that are here together; behind their first width fields stands one more then."""
    lets = Lets()
    # The way of a record that is here is how many are gone ahead of it; those that are gone have none.
    way = lets.let("if", HERE, KEPT, NOUGHT)
    gone = lets.let("add", KEPT, UNIT)
    further = lets.let("if", HERE, KEPT, gone)
    making.tell(cells, width, lets, way, further)
    for digit in range(digits_of(len(cells))):
        rule = _exchange_rule(("digit", digit, ("two", width)))
        for low, high in _pairs_apart(cells, digit):
            making.step(low, high, rule)


def spread_area(making, cells, width, field):
    """Spreads the first records, which are here, to the goals in field; behind width fields stands one more then."""
    lets = Lets()
    to_go = lets.let("sub", ("one", field), KEPT)
    way = lets.let("if", HERE, to_go, NOUGHT)
    further = lets.let("add", KEPT, UNIT)
    making.tell(cells, width, lets, way, further)
    for digit in reversed(range(digits_of(len(cells)))):
        rule = _exchange_rule(("digit", digit, ("one", width)))
        for low, high in reversed(_pairs_apart(cells, digit)):
            making.step(low, high, rule)


def _pairs_apart(cells, digit):
    """The pairs of cells that are 2 ** digit places apart, from left to right."""
    return list(zip(cells, cells[1 << digit:]))


def _exchange_rule(let):
    """The rule that exchanges two records if let comes to 1."""
    return (let,), ("if", ("let", 0), TWO, ONE), ("if", ("let", 0), ONE, TWO)


def _are_moves(room, value):
    """Whether value is moves of room."""
    if not isinstance(value, tuple) or not all([_is_move(room, move) for move in value]):
        return False
    for ahead, move in zip(value, value[1:]):
        if ahead[0] >= move[0] or ahead[1] >= move[1]:
            return False
    return all([goal <= place for place, goal in value]) or all([goal >= place for place, goal in value])


def _is_move(room, value):
    return is_tuple(value, 2, 2) and all([is_between(place, 0, room - 1) for place in value])


def _place_behind(digit, place, goal):
    """Where the thing that goes from place to goal is behind this digit."""
    if goal <= place:
        return place - (place - goal) % (2 << digit)
    way = goal - place
    return place + way - way % (1 << digit)
