"""Programs without the steps on which nothing hangs that is kept."""

# What is named, as a sum: 1 for the first cell, 2 for the second one.
NAMED = {"one": 1, "two": 2, "put": 0}


def reads_of(program, kept):
    """The cells on which alone hangs what kept holds in the end, ascending."""
    return _gone_back(program, kept)[0]


def lean(program, kept):
    """The program without its idle steps."""
    cells, rules, _ = program
    return cells, rules, _gone_back(program, kept)[1]


def _gone_back(program, kept):
    """The cells that are live ahead of all steps, and the steps that are not idle."""
    cells, rules, steps = program
    names = [_named_by(rule) for rule in rules]
    live = [False] * cells
    for cell in kept:
        live[cell] = True
    found = []
    for step in reversed(steps):
        one, other, place = step
        first, second = names[place]
        named = (first if live[one] else 0) | (second if live[other] else 0)
        if live[one] or live[other]:
            found.append(step)
            live[one] = bool(named & 1)
            live[other] = bool(named & 2)
    return tuple([cell for cell in range(cells) if live[cell]]), tuple(found[::-1])


def _named_by(rule):
    """What the two record rules of rule name."""
    lets, first, second = rule
    known = []
    for let in lets:
        atoms = let[2:] if let[0] == "digit" else let[1:]
        known.append(_named_in(atoms, known))
    return _named_by_record(first, known), _named_by_record(second, known)


def _named_by_record(record_rule, known):
    word = record_rule[0]
    if word == "if":
        atom, chosen, other = record_rule[1:]
        return _named_in((atom,), known) | _named_by_record(chosen, known) | _named_by_record(other, known)
    if word == "new":
        return _named_in(record_rule[1], known)
    return NAMED[word]


def _named_in(atoms, known):
    """What atoms name; known is what the lets ahead name."""
    named = 0
    for word, what in atoms:
        named |= known[what] if word == "let" else NAMED[word]
    return named
