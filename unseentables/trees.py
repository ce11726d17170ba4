"""Values in which others stand: expressions and plans."""


def has_more(value, inside, limit):
    """Whether more than limit things stand in value, it too; inside tells those straight in one."""
    # Stops early, as values may be far larger than any limit.
    left = [value]
    many = 0
    while len(left) > 0 and many <= limit:
        many += 1
        left.extend(inside(left.pop()))
    return many > limit
