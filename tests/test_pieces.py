"""Pieces of programs over an area, alone and one behind another."""

import random

from areamakers import FEW, area_record, field, odd_memory, random_area, random_flags
from support import Case
from unseentables.pieces import counted_program, filled_program, firsts_program, lasts_program, totals_program
from unseentables.programs import behind, program_error
from unseentables.routing import draw_program, drawn_moves, spread_program
from unseentables.running import run
from unseentables.sorting import sort_program

ROOMS = (1, 2, 3, 4, 5, 6, 7, 8, 9, 16, 64)
RUNS = ((1, "a"), (0, "z"), (1, "a"), (1, "b"), (1, "a"))


class Piece(Case):
    def after(self, chance, program, area):
        """What a right program leaves of area, with whatever in other cells."""
        self.told(program_error(program), None)
        self.assertGreaterEqual(program[0], len(area))
        return run(program, odd_memory(chance, area, program[0]))[:len(area)]


class Counted(Piece):
    def counts(self, chance, area, width):
        result = self.after(chance, counted_program(len(area), width), area)
        ahead = 0
        for record, before in zip(result, area):
            self.told(record, tuple([field(before, place) for place in range(width)]) + (ahead,))
            ahead += before[0]

    def test_example(self):
        program, area = counted_program(4, 2), ((1, "a"), (0, "x"), (1, "b"), (1, "c"))
        self.told(run(program, area + ((5,),) * (program[0] - 4))[:4],
                  ((1, "a", 0), (0, "x", 1), (1, "b", 1), (1, "c", 2)))

    def test_drawn_areas(self):
        chance = random.Random(51)
        for room in ROOMS:
            for width in (1, 2, 3, 22, chance.randrange(1, 23)):
                for _ in range(4):
                    self.counts(chance, random_area(chance, room, width), width)

    def test_it_tells_the_goals_of_drawing(self):
        chance = random.Random(52)
        for room in ROOMS:
            flags = random_flags(chance, room)
            result = self.after(chance, counted_program(room, 1), tuple([(flag,) for flag in flags]))
            self.told(tuple([(place, record[1]) for place, record in enumerate(result) if record[0] == 1]),
                      drawn_moves(flags))

    def test_calls(self):
        self.calls(counted_program, (4, 2))
        self.told(counted_program(width=2, room=4), counted_program(4, 2))


class Totals(Piece):
    def totals(self, chance, area, width, place):
        result = self.after(chance, totals_program(len(area), width, place), area)
        total = 0
        for record, before in zip(result, area):
            word = field(before, place)
            if before[0] == 1 and not isinstance(word, str):
                total += word
            self.told(record, tuple([field(before, at) for at in range(width)]) + (total,))

    def test_example(self):
        program, area = totals_program(4, 2, 1), ((1, 5), (0, 9), (1, 2), (1, -1))
        self.told(run(program, area + ((),) * (program[0] - 4))[:4], ((1, 5, 5), (0, 9, 5), (1, 2, 7), (1, -1, 6)))

    def test_texts_count_as_nought(self):
        area = ((1, 5), (1, "a"), (0, 8), (1, 3), (0, "b"), (1, ""), (1, 10 ** 40), (1, "7"), (1,), (1, -3))
        result = self.after(random.Random(53), totals_program(10, 2, 1), area)
        big = 8 + 10 ** 40
        self.told([record[2] for record in result], [5, 5, 5, 8, 8, 8, big, big, big, big - 3])

    def test_the_field_0(self):
        chance = random.Random(54)
        for room in ROOMS:
            self.totals(chance, random_area(chance, room), 22, 0)
            self.totals(chance, random_area(chance, room, 1), 1, 0)

    def test_drawn_areas(self):
        chance = random.Random(55)
        for room in ROOMS:
            for width in (1, 2, 3, 22, chance.randrange(1, 23)):
                for place in (0, width - 1, chance.randrange(width)):
                    self.totals(chance, random_area(chance, room, width), width, place)

    def test_calls(self):
        self.calls(totals_program, (4, 2, 1))
        self.told(totals_program(field=1, width=2, room=4), totals_program(4, 2, 1))


class Filled(Piece):
    def fills(self, chance, area):
        result = self.after(chance, filled_program(len(area)), area)
        nearest = None
        for record, before in zip(result, area):
            nearest = before if before[0] == 1 else nearest
            self.keeps(record, before if nearest is None else nearest)

    def test_example(self):
        program, area = filled_program(5), ((0, "x"), (1, "a"), (0, "y"), (0, "z"), (1, "b"))
        self.told([record[:2] for record in run(program, area + ((),) * (program[0] - 5))[:5]],
                  [(0, "x"), (1, "a"), (1, "a"), (1, "a"), (1, "b")])

    def test_drawn_areas(self):
        chance = random.Random(56)
        for room in ROOMS:
            for most in (1, 2, 22):
                for _ in range(5):
                    self.fills(chance, random_area(chance, room, most))

    def test_calls(self):
        self.calls(filled_program, (5,))
        self.told(filled_program(room=5), filled_program(5))


class FirstsAndLasts(Piece):
    def thins(self, chance, area, fields):
        """firsts and lasts leave just the first and the last record of each run."""
        runs = []
        for place, record in enumerate(area):
            if record[0] == 1:
                words = [field(record, at) for at in fields]
                if runs and runs[-1][0] == words:
                    runs[-1][1].append(place)
                else:
                    runs.append((words, [place]))
        for make, kept in ((firsts_program, [places[0] for _, places in runs]),
                           (lasts_program, [places[-1] for _, places in runs])):
            result = self.after(chance, make(len(area), fields), area)
            for place, record in enumerate(area):
                self.keeps(result[place], record if place in kept else (0,) + record[1:])

    def test_examples(self):
        told = [[record[:2] for record in self.after(random.Random(1), make(5, (1,)), RUNS)]
                for make in (firsts_program, lasts_program)]
        self.told(told, [[(1, "a"), (0, "z"), (0, "a"), (1, "b"), (1, "a")],
                         [(0, "a"), (0, "z"), (1, "a"), (1, "b"), (1, "a")]])
        told = [[record[0] for record in self.after(random.Random(1), make(5, ()), RUNS)]
                for make in (firsts_program, lasts_program)]
        self.told(told, [[1, 0, 0, 0, 0], [0, 0, 0, 0, 1]])

    def test_runs_with_gone_records_between(self):
        chance = random.Random(57)
        self.thins(chance, ((0, 1), (1, 1), (0, 2), (0, 1), (1, 1), (0, 1), (1, 2), (0, 2), (1, 2), (0, 2)), (1,))
        self.thins(chance, ((1, 1), (0, 2), (1, 1), (1, 1), (0, 1), (1, 1)), (1,))
        self.thins(chance, ((0, 1), (0, 1), (0, 1)), (1,))

    def test_fields_that_are_not_there(self):
        chance = random.Random(58)
        self.thins(chance, ((1,), (1, 0), (1, 0, 0), (1, 0, 1), (1,), (1, "")), (1, 2))
        self.thins(chance, ((1,), (1,) + (0,) * 21, (1,) + (0,) * 20 + (5,), (1,) + (0,) * 20 + (5,)), (21,))

    def test_an_integer_is_no_text(self):
        self.thins(random.Random(59), ((1, 0), (1, ""), (1, 1), (1, "1"), (1, "1")), (1,))

    def test_no_fields(self):
        chance = random.Random(60)
        for room in ROOMS:
            for _ in range(4):
                self.thins(chance, random_area(chance, room), ())

    def test_drawn_areas(self):
        chance = random.Random(61)
        for room in ROOMS:
            for fields in ((1,), (2, 1), (1, 2, 3), (21,), (1, 1), tuple(range(14, 22)), tuple(range(1, 9))):
                self.thins(chance, random_area(chance, room, chance.choice((1, 2, 3, 22)), FEW[:2]), fields)
                area = tuple([(flag,) + chance.choice(((1, 1), (1, 1, 1), (1, 0)))
                              for flag in random_flags(chance, room)])
                self.thins(chance, area, fields)

    def test_calls(self):
        for make in (firsts_program, lasts_program):
            self.calls(make, (5, (1, 2)))
            self.told(make(fields=(1,), room=5), make(5, (1,)))


class OneBehindAnother(Piece):
    def test_firsts_drawn_together(self):
        chance = random.Random(62)
        for room in ROOMS:
            area = tuple([area_record(chance, flag, 2, FEW) for flag in random_flags(chance, room)])
            firsts = self.after(chance, firsts_program(room, (1,)), area)
            both = self.after(chance, behind(firsts_program(room, (1,)), draw_program(room)), area)
            here = [record for record in firsts if record[0] == 1]
            for record, kept in zip(both, here):
                self.keeps(record, kept)
            self.told([record[0] for record in both], [1] * len(here) + [0] * (room - len(here)))

    def test_drawn_together_and_spread_again(self):
        chance = random.Random(63)
        for room in ROOMS:
            for _ in range(3):
                area = tuple([(flag, place) + area_record(chance, 1, 20)[1:]
                              for place, flag in enumerate(random_flags(chance, room))])
                result = self.after(chance, behind(draw_program(room), spread_program(room)), area)
                for record, before in zip(result, area):
                    if before[0] == 1:
                        self.keeps(record, before)
                    else:
                        self.told(record[0], 0)

    def test_spread_and_filled(self):
        area = ((1, 1, "a"), (1, 3, "b"), (1, 6, "c")) + ((0,),) * 5
        result = self.after(random.Random(64), behind(spread_program(8), filled_program(8)), area)
        self.told([record[:3] for record in result[1:]],
                  [(1, 1, "a")] * 2 + [(1, 3, "b")] * 3 + [(1, 6, "c")] * 2)
        self.told(result[0][0], 0)

    def test_sorted_and_the_last_of_each_run_with_its_total(self):
        chance = random.Random(65)
        for room in ROOMS:
            area = tuple([(chance.choice((0, 1)), chance.choice("ab"), chance.randrange(-3, 9)) for _ in range(room)])
            program = behind(sort_program(room, ((0, "down"), (1, "up"))), totals_program(room, 3, 2))
            program = behind(behind(program, lasts_program(room, (1,))), draw_program(room))
            result = [record[:4] for record in self.after(chance, program, area) if record[0] == 1]
            letters = sorted({record[1] for record in area if record[0] == 1})
            self.told([record[1] for record in result], letters)
            totals = [sum([record[2] for record in area if record[0] == 1 and record[1] <= letter])
                      for letter in letters]
            self.told([record[3] for record in result], totals)

    def test_counted_twice(self):
        chance = random.Random(66)
        area = random_area(chance, 9, 3)
        result = self.after(chance, behind(counted_program(9, 3), counted_program(9, 4)), area)
        self.told([record[3] for record in result], [record[4] for record in result])
