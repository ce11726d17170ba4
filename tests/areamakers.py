"""Areas of records, and what stands beside them, made by chance."""

WORDS = (0, 1, 2, -1, 7, 10 ** 30, "", "a", "b", "a b", "z" * 12)
FEW = (0, 1, "a", "")
ODD_RECORDS = (
    (), (0,), (1,), (1, 1), (1, 0, 1, 1), ("x",), ("", "a", 5), (9,) * 24, (1,) * 24, (-3, 2), (10 ** 40, "b"), ("",),
    (1,) * 23, ("a",) * 24, (0,) * 24, (2, 5), (1, "one"), (7,),
)


def odd_memory(chance, area, cells):
    """A memory that begins with area; its further cells hold whatever they like."""
    return area + tuple([chance.choice(ODD_RECORDS) for _ in range(cells - len(area))])


def area_record(chance, here, most, words=WORDS):
    """A record of 1 to most fields."""
    many = chance.choice((1, 2, 3, most, chance.randrange(1, most + 1)))
    return (here,) + tuple([chance.choice(words) for _ in range(min(many, most) - 1)])


def random_flags(chance, room):
    """For each cell whether its record is here: none, some or all."""
    way = chance.randrange(4)
    if way < 2:
        return (way,) * room
    return tuple([chance.choice((0, 1)) for _ in range(room)])


def random_area(chance, room, most=22, words=WORDS):
    return tuple([area_record(chance, flag, most, words) for flag in random_flags(chance, room)])


def field(record, place):
    """The word of the field at place, 0 if there is no such field."""
    return record[place] if place < len(record) else 0
