"""Numbers in twos."""


def digits_of(many):
    """How many digits in twos tell so many things apart: the least d with 2 ** d >= many."""
    return (many - 1).bit_length()


def digit_at(place, number):
    """The digit of number, 0 at least, at this place; the least one stands at 0."""
    return (number >> place) & 1
