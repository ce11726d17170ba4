"""Gates: sorting by exchanges at places that are told ahead."""

from unseentables.digits import digit_at, digits_of
from unseentables.forms import is_between, is_tuple


def gates(many):
    """Gates that sort all rows of so many integers."""
    # What would stand at the places beyond many are greatest items, which no gate moves.
    places = list(range(1 << digits_of(many)))
    return tuple([gate for gate in _sorting(places) if gate[1] < many])


def gate_limit(many):
    """How many gates are enough to sort so many integers."""
    digits = digits_of(many)
    return (digits * digits - digits + 4) * (1 << digits) // 4 - 1


def after_gates(network, row):
    """The row that is left of row when all gates of network are done."""
    items = list(row)
    for low, high in network:
        if items[low] > items[high]:
            items[low], items[high] = items[high], items[low]
    return tuple(items)


def sorts_error(many, value):
    """None if value is gates that sort all rows of so many integers; otherwise why not."""
    if not isinstance(value, tuple) or not all([_is_gate(many, item) for item in value]):
        return "form"
    for number in range(1 << many):
        row = tuple([digit_at(place, number) for place in range(many)])
        if not _is_ascending(after_gates(value, row)):
            return row
    return None


def _sorting(places):
    """Gates that sort what stands at places, a power of two of them."""
    if len(places) == 1:
        return []
    half = len(places) // 2
    return _sorting(places[:half]) + _sorting(places[half:]) + _merging(places)


def _merging(places):
    """Gates that sort what stands at places, if both halves of them are sorted."""
    if len(places) == 2:
        return [(places[0], places[1])]
    # The even places, and the odd ones, merged by themselves differ by two noughts at the most.
    mending = list(zip(places[1:-1:2], places[2::2]))
    return _merging(places[::2]) + _merging(places[1::2]) + mending


def _is_gate(many, value):
    if not is_tuple(value, 2, 2) or not is_between(value[0], 0, many - 1):
        return False
    return is_between(value[1], value[0] + 1, many - 1)


def _is_ascending(row):
    return all([low <= high for low, high in zip(row, row[1:])])
