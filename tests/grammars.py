"""The lines that tell the pieces of expressions, questions and statements, asked and drawn without the package."""

import random
import re

from unseentables.lexing import pieces

LINES = """
expr = both { "or" both }
both = part { "and" part }
part = "not" part | side [ mark side ]
mark = "=" | "<" | ">" | "<=" | ">=" | "<>"
side = term { ( "+" | "-" ) term }
term = one { "*" one }
one = number | "-" number | text | name | "(" expr ")" | "if" expr "then" expr "else" expr
question = sort { ( "append" | "less" | "meet" ) sort }
sort = "(" question ")" | select
select = "select" [ "distinct" ] ( "*" | alone { "," alone } ) from end | grouped
grouped = "select" [ "distinct" ] some from having end | "select" [ "distinct" ] any from groups having end
from = "from" source [ "where" expr ]
groups = "group" "by" name { "," name }
having = [ "having" expr ]
end = [ "order" "by" key { "," key } ] [ "numbered" name ] [ "running" name "as" name ] last
last = [ "first" number ] [ "keep" number ]
alone = name | expr "as" name
told = "count" "(" "*" ")" "as" name | ( "sum" | "least" | "greatest" ) "(" name ")" "as" name
any = "*" | ( alone | told ) { "," ( alone | told ) }
some = { alone "," } told { "," ( alone | told ) }
source = atom { "join" atom "on" ties "within" number | ( "with" | "without" ) atom "on" ties | "pairs" atom }
atom = name | "(" question ")"
ties = name "=" name { "and" name "=" name }
key = name [ "up" | "down" ]
statement = "make" name "(" column { "," column } ")" "room" number | "drop" name | puts | "strike" aims | changes
puts = "put" "into" name "values" "(" value { "," value } ")"
aims = "from" name "where" expr
changes = "change" name "to" item { "," item } "where" expr | "ask" question | "mark" | "back"
column = name ( "number" | "text" )
value = number | "-" number | text
item = name "=" expr
"""
SORTS = ("name", "number", "text")


def read_grammar(lines):
    """For each word of lines its rows: tuples of words, of sorts and of pieces between signs "."""
    rules = {}

    def row_of(symbols):
        """Reads alternatives up to a closing bracket; returns the rows."""
        rows, row = [], []
        while symbols and symbols[0] not in (")", "]", "}"):
            symbol = symbols.pop(0)
            if symbol == "|":
                rows.append(tuple(row))
                row = []
            elif symbol in ("(", "[", "{"):
                inner = row_of(symbols)
                symbols.pop(0)
                fresh = f"#{len(rules)}"
                rules[fresh] = inner
                if symbol == "{":
                    rules[fresh] = [found + (fresh,) for found in inner]
                if symbol != "(":
                    rules[fresh] = rules[fresh] + [()]
                row.append(fresh)
            else:
                row.append(symbol)
        return rows + [tuple(row)]

    for line in lines.strip().split("\n"):
        word, _, right = line.partition(" = ")
        rules[word] = []
        rules[word] = row_of(re.findall(r'"[^"]*"|[a-z]+|[|(){}\[\]]', right))
    return rules


RULES = read_grammar(LINES)


def fits(symbol, piece):
    """Whether a piece, a pair of sort and what, is one of this symbol."""
    sort, what = piece
    if symbol in SORTS:
        return sort == symbol
    return sort in ("keyword", "sign") and symbol == f'"{what}"'


def closed(items, behind):
    """All items that follow at one place, a list of tuples (word, row, point, begin); behind are those ahead of it."""
    found, left = set(), list(items)
    while left:
        item = left.pop()
        if item in found:
            continue
        found.add(item)
        word, row, point, begin = item
        if point == len(row):
            there = found if begin == len(behind) else behind[begin]
            left.extend([(w, r, p + 1, b) for w, r, p, b in there if p < len(r) and r[p] == word])
            continue
        symbol = row[point]
        if symbol in RULES:
            left.extend([(symbol, other, 0, len(behind)) for other in RULES[symbol]])
            # What is empty may have been ended ahead of this item.
            if [1 for w, r, p, b in found if w == symbol and p == len(r) and b == len(behind)]:
                left.append((word, row, point + 1, begin))
    return found


def first_wrong(start, text_pieces):
    """The place of the first piece with which no start can go on; how many there are, if all can begin one; or None."""
    sets = []
    items = [(start, row, 0, 0) for row in RULES[start]]
    for place in range(len(text_pieces) + 1):
        sets.append(closed(items, sets))
        if place == len(text_pieces):
            break
        items = [(word, row, point + 1, begin) for word, row, point, begin in sets[-1]
                 if point < len(row) and row[point] not in RULES and fits(row[point], text_pieces[place])]
        if not items:
            return place
    if [1 for word, row, point, begin in sets[-1] if word == start and point == len(row) and begin == 0]:
        return None
    return len(text_pieces)


def heights():
    """For each word how deep its least text is."""
    found = {}
    while len(found) < len(RULES):
        for word, rows in RULES.items():
            told = [1 + max([found[symbol] for symbol in row if symbol in RULES] + [0]) for row in rows
                    if all([symbol in found for symbol in row if symbol in RULES])]
            if told and word not in found:
                found[word] = min(told)
    return found


HEIGHTS = heights()
DRAWN = {"name": ("a", "b", "t", "u"), "number": ("0", "1", "5", "64"), "text": ("''", "'x'", "'a b'")}


def draw(chance, word, deep):
    """The pieces, as texts, of a text of this word."""
    if word in DRAWN:
        return [chance.choice(DRAWN[word])]
    if word not in RULES:
        return [word[1:-1]]
    rows = RULES[word]
    if deep <= 0:
        rows = sorted(rows, key=lambda row: max([HEIGHTS.get(symbol, 0) for symbol in row] + [0]))[:1]
    return [piece for symbol in chance.choice(rows) for piece in draw(chance, symbol, deep - 1)]


ALL_PIECES = ("a", "t", "0", "7", "'x'", "(", ")", "*", ",", "=", "<", "-", "+", "and", "or", "not", "if", "then",
              "else", "select", "from", "where", "as", "by", "count", "having", "group", "order", "append", "less",
              "within", "on", "pairs", "first", "number", "values", "to", "room", "up", "distinct")


def spoilt(chance, texts):
    """texts with one piece taken out, doubled, exchanged or put in, or cut off."""
    place = chance.randrange(len(texts) + 1)
    way = chance.randrange(6)
    if way == 0:
        return texts[:place]
    if way == 1:
        return texts[:place] + [chance.choice(ALL_PIECES)] + texts[place:]
    if way == 2:
        return texts[:place] + [chance.choice(ALL_PIECES)] + texts[place + 1:]
    if way == 3:
        return texts[:place] + texts[place + 1:]
    if way == 4:
        other = chance.randrange(len(texts) + 1)
        return texts[:place] + texts[other:]
    return texts[:place] + texts[:place][-1:] + texts[place:]


def drawn_texts(seed, word, deeps, rights, wrongs):
    """Pairs of a text and of the place of its first wrong piece, None for a right one; so many of both at least."""
    chance = random.Random(seed)
    while rights > 0 or wrongs > 0:
        texts = draw(chance, word, chance.choice(deeps))
        if len(texts) > 35:
            continue
        text = " ".join(spoilt(chance, texts) if chance.random() < 0.8 else texts)
        place = first_wrong(word, [piece[:2] for piece in pieces(text)])
        rights -= place is None
        wrongs -= place is not None
        yield text, place
