"""Sorting records by fixed exchanges."""

import functools
import random

from areamakers import FEW, WORDS, area_record, field, odd_memory
from support import Case
from unseentables.programs import program_error, touches
from unseentables.rules import rule_error
from unseentables.running import run
from unseentables.sorting import order_rule, sort_program

UP, DOWN, BOTH = ((1, "up"),), ((1, "down"),), ((1, "down"), (0, "up"))


def stands_ahead(keys, one, other):
    """Whether one stands ahead of other by keys."""
    for place, way in keys:
        x, y = field(one, place), field(other, place)
        if x != y:
            if isinstance(x, str) != isinstance(y, str):
                return False
            return x < y if way == "up" else x > y
    return False


class OrderRules(Case):
    def after(self, keys, one, other):
        """What the rule of keys leaves of two records; it is right, and the same on cells told the other way."""
        rule = order_rule(keys)
        self.told(rule_error(rule), None)
        result = run((2, (rule,), ((0, 1, 0),)), (one, other))
        self.told(run((2, (rule,), ((1, 0, 0),)), (other, one)), result[::-1])
        return result

    def test_examples(self):
        self.told([self.after(keys, (3, 7), (2, 5)) for keys in (UP, DOWN, BOTH)],
                  [((2, 5), (3, 7)), ((3, 7), (2, 5)), ((3, 7), (2, 5))])
        self.told([self.after(keys, (3, 5), (2, 5, 9)) for keys in (UP, DOWN, BOTH, ())],
                  [((3, 5), (2, 5, 9)), ((3, 5), (2, 5, 9)), ((2, 5, 9), (3, 5)), ((3, 5), (2, 5, 9))])
        self.told(self.after(UP, (1, "b"), (1, "a")), ((1, "a"), (1, "b")))

    def test_no_key(self):
        for one, other in (((1,), (0,)), ((), (5,)), (("b",), ("a",))):
            self.told(self.after((), one, other), (one, other))

    def test_fields_that_are_not_there(self):
        self.told(self.after(UP, (5, 1), (6,)), ((6,), (5, 1)))
        self.told(self.after(UP, (5, -1), (6,)), ((5, -1), (6,)))
        self.told(self.after(((23, "down"),), (), (0,) * 23 + (1,)), ((0,) * 23 + (1,), ()))
        self.told(self.after(((23, "up"),), (), ()), ((), ()))

    def test_an_integer_met_beside_a_text(self):
        for keys in (((0, "up"), (1, "up")), ((0, "down"), (1, "up"))):
            self.told(self.after(keys, (1, 5), ("a", 2)), ((1, 5), ("a", 2)))
            self.told(self.after(keys, ("a", 5), (1, 2)), (("a", 5), (1, 2)))
        self.told(self.after(((0, "up"), (1, "up")), (1, 5), (0, "x")), ((0, "x"), (1, 5)))
        self.told(self.after(((0, "up"), (1, "up")), (1, 5), (1, "x")), ((1, 5), (1, "x")))
        self.told(self.after(((1, "up"),), (1, "x"), (1,)), ((1, "x"), (1,)))

    def test_eight_keys(self):
        keys = tuple([(place, "up" if place % 2 else "down") for place in range(8)])
        for place in range(8):
            one, other = [4] * 8, [4] * 8
            other[place] = 5
            swapped = place % 2 == 0
            self.told(self.after(keys, tuple(one), tuple(other)),
                      (tuple(other), tuple(one)) if swapped else (tuple(one), tuple(other)))

    def test_drawn_records(self):
        chance = random.Random(31)
        for _ in range(3000):
            keys = tuple([(chance.choice((0, 1, 2, 3, 23)), chance.choice(("up", "down")))
                          for _ in range(chance.randrange(9))])
            words = chance.choice((WORDS, FEW, (0, 1, 2), ("", "a", "b")))
            one, other = area_record(chance, 1, 5, words), area_record(chance, chance.choice((0, 1)), 5, words)
            expected = (other, one) if stands_ahead(keys, other, one) else (one, other)
            self.told(self.after(keys, one, other), expected)

    def test_calls(self):
        self.calls(order_rule, (BOTH,))
        self.told(order_rule(keys=()), order_rule(()))


class SortPrograms(Case):
    def sorts(self, chance, keys, rows):
        """The program sorts rows, with whatever in other cells, and leaves alike ones in their order."""
        many = len(rows)
        program = sort_program(many, keys)
        self.told(program_error(program), None)
        self.assertGreaterEqual(program[0], many)
        result = run(program, odd_memory(chance, rows, program[0]))[:many]
        expected = sorted(rows, key=functools.cmp_to_key(
            lambda one, other: stands_ahead(keys, other, one) - stands_ahead(keys, one, other)))
        for record, row in zip(result, expected):
            self.keeps(record, row)

    def test_examples(self):
        rows = ((1, 7, "a"), (1, 5, "b"), (1, 7, "c"), (1, 2, "d"))
        program = sort_program(4, UP)
        self.told([record[:3] for record in run(program, rows + ((9, 9, 9),) * (program[0] - 4))[:4]],
                  [(1, 2, "d"), (1, 5, "b"), (1, 7, "a"), (1, 7, "c")])
        program = sort_program(4, ((2, "down"), (0, "up")))
        self.told([record[:3] for record in run(program, rows + ((),) * (program[0] - 4))[:4]],
                  [(1, 2, "d"), (1, 7, "c"), (1, 5, "b"), (1, 7, "a")])

    def drawn_rows(self, chance, many, kinds):
        """Rows of unlike lengths, whose first fields are of these kinds."""
        rows = []
        for number in range(many):
            row = [chance.choice((0, 1, 2, -5) if kind == "number" else ("", "a", "ab", "b")) for kind in kinds]
            row += [chance.choice(WORDS) for _ in range(chance.choice((0, 1, 22 - len(kinds))))]
            least = max([place + 1 for place, kind in enumerate(kinds) if kind == "text"], default=0)
            rows.append(tuple(row[:chance.randrange(least, len(row) + 1)]))
        return tuple(rows)

    def test_drawn_rows(self):
        chance = random.Random(32)
        for many in (1, 2, 3, 4, 5, 6, 7, 8, 9, 64):
            for _ in range(12 if many < 64 else 4):
                kinds = [chance.choice(("number", "text")) for _ in range(chance.randrange(4))]
                keys = [(place, chance.choice(("up", "down"))) for place in range(len(kinds))]
                chance.shuffle(keys)
                self.sorts(chance, tuple(keys), self.drawn_rows(chance, many, kinds))

    def test_no_key(self):
        chance = random.Random(33)
        for many in (1, 2, 3, 9, 64):
            self.sorts(chance, (), self.drawn_rows(chance, many, []))

    def test_alike_rows_stay_in_their_order(self):
        chance = random.Random(34)
        for many in (2, 5, 8, 9, 64):
            for keys in (((0, "up"),), ((0, "down"),), ((1, "up"), (0, "down"))):
                self.sorts(chance, keys, tuple([(chance.choice((0, 1)), 7, place) for place in range(many)]))
                self.sorts(chance, keys, tuple([(3, 7, place) for place in range(many)]))

    def test_the_last_field_and_full_records(self):
        chance = random.Random(35)
        rows = tuple([tuple([chance.randrange(3) for _ in range(22)]) for _ in range(9)])
        self.sorts(chance, ((21, "up"), (20, "down")), rows)
        self.sorts(chance, tuple([(place, "down") for place in range(14, 22)]), rows)
        self.sorts(chance, ((21, "up"),), tuple([row[:chance.choice((0, 5, 22))] for row in rows]))

    def test_touches_hang_on_many_and_keys_alone(self):
        self.told(touches(sort_program(5, UP)), touches(sort_program(5, ((0, "down"), (3, "up")))))

    def test_calls(self):
        self.calls(sort_program, (5, BOTH))
        self.told(sort_program(keys=UP, many=3), sort_program(3, UP))
