"""Moves that never meet, and programs that draw together and spread out."""

import itertools
import random

from areamakers import area_record, odd_memory, random_area
from support import Case, any_values
from unseentables.errors import Unfit
from unseentables.programs import program_error
from unseentables.routing import draw_program, drawn_moves, route_error, spread_program
from unseentables.running import run

ROOMS = (1, 2, 3, 4, 5, 6, 7, 8, 9, 16, 64)


def plain_route(moves):
    """The first digit, and the least place, at which two things are, by moving them digit by digit."""
    things = [[place, place, goal] for place, goal in moves]
    right = any([goal > place for place, goal in moves])
    for digit in ((5, 4, 3, 2, 1, 0) if right else (0, 1, 2, 3, 4, 5)):
        for thing in things:
            way = abs(thing[2] - thing[1])
            if way // 2 ** digit % 2 == 1:
                thing[0] += 2 ** digit if right else -2 ** digit
        places = sorted([thing[0] for thing in things])
        for one, other in zip(places, places[1:]):
            if one == other:
                return digit, one
    assert [thing[0] for thing in things] == [goal for _, goal in moves]
    return None


class Routes(Case):
    def test_examples(self):
        self.told(route_error(5, ((1, 0), (2, 1), (4, 2))), None)
        self.told(route_error(6, ((4, 0), (5, 4))), (0, 4))
        self.told(route_error(6, ((0, 1), (1, 5))), None)
        self.told(route_error(7, ((0, 5), (4, 6))), (2, 4))

    def test_no_way(self):
        self.told(route_error(1, ()), None)
        self.told(route_error(64, ()), None)
        self.told(route_error(1, ((0, 0),)), None)
        self.told(route_error(64, tuple([(place, place) for place in range(64)])), None)

    def test_one_thing(self):
        for place in range(64):
            for goal in range(64):
                self.told(route_error(64, ((place, goal),)), None)

    def test_far_ways(self):
        self.told(route_error(64, ((63, 0),)), None)
        self.told(route_error(64, ((62, 0), (63, 63))), None)
        self.told(route_error(64, ((61, 0), (62, 62))), None)
        self.told(route_error(64, ((33, 1), (34, 33))), (0, 33))
        self.told(route_error(64, ((0, 32), (32, 33))), (5, 32))
        self.told(route_error(64, ((0, 1), (1, 2), (2, 63))), None)
        self.told(route_error(64, ((0, 31), (16, 32))), None)
        self.told(route_error(64, ((0, 48), (32, 49))), (5, 32))

    def test_all_moves_of_small_rooms(self):
        met = 0
        for room in range(1, 6):
            for many in range(room + 1):
                for places in itertools.combinations(range(room), many):
                    for goals in itertools.combinations(range(room), many):
                        moves = tuple(zip(places, goals))
                        ways = [goal - place for place, goal in moves]
                        if max(ways, default=0) > 0 and min(ways) < 0:
                            self.refuses(Unfit, {}, route_error, (room, moves))
                        else:
                            expected = plain_route(moves)
                            met += expected is not None
                            self.told(route_error(room, moves), expected)
        self.assertGreater(met, 10)

    def test_drawn_moves_of_large_rooms(self):
        chance = random.Random(41)
        met = {"left": 0, "right": 0, "none": 0}
        for _ in range(1500):
            room = chance.choice((8, 16, 31, 64))
            many = chance.randrange(2, 7)
            lesser = sorted(chance.sample(range(room), many))
            greater = sorted(chance.sample(range(room), many))
            pairs = [(min(pair), max(pair)) for pair in zip(lesser, greater)]
            if chance.random() < 0.5:
                moves, way = tuple([(high, low) for low, high in pairs]), "left"
            else:
                moves, way = tuple(pairs), "right"
            expected = plain_route(moves)
            met[way if expected else "none"] += 1
            self.told(self.calls(route_error, (room, moves)), expected)
        self.assertGreater(min(met.values()), 50)

    def test_ways_that_never_fall(self):
        chance = random.Random(42)
        for _ in range(400):
            goals = sorted(chance.sample(range(64), chance.randrange(1, 30)))
            spread = tuple(enumerate(goals))
            self.told(route_error(64, spread), None)
            self.told(route_error(64, tuple([(goal, place) for place, goal in spread])), None)

    def test_no_moves(self):
        for moves in (None, True, 5, "ab", [], {}, [(1, 0)], ((1, 0, 0),), ((1,),), ([1, 0],), (1, 0), (None,), ("ab",),
                      ((1, None),), ((True, 0),), ((1, False),), (("1", 0),), ((-1, 0),), ((1, -1),), ((4, 0),),
                      ((0, 4),), ((10 ** 300, 0),), ((1, 0), (1, 1)), ((2, 0), (1, 1)), ((1, 0), (2, 0)),
                      ((1, 1), (2, 0)), ((0, 0), (0, 0)), ((1, 0), (2, 3)), ((0, 1), (2, 1)), ((0, 1), (3, 2)),
                      ((1, 0), (2, 1), None), ((0, 0), (1, 2), (3, 1)), ((0, 0), (1, 2), (3, 3), (4, 4))):
            self.refuses(Unfit, {}, route_error, (4, moves))

    def test_any_value(self):
        right = (((1, 0), (2, 1), (4, 2)), ((0, 1), (1, 5)), ((0, 0),), ())
        for value in any_values(43, right, 700):
            try:
                self.told(route_error(6, value), plain_route(value))
            except Unfit:
                continue

    def test_calls(self):
        self.calls(route_error, (6, ((4, 0), (5, 4))))
        self.told(route_error(moves=((4, 0), (5, 4)), room=6), (0, 4))


class DrawnMoves(Case):
    def test_examples(self):
        self.told(drawn_moves((0, 1, 1, 0, 1)), ((1, 0), (2, 1), (4, 2)))
        self.told([drawn_moves((0, 0)), drawn_moves((1, 1))], [(), ((0, 0), (1, 1))])
        self.told([drawn_moves((0,)), drawn_moves((1,)), drawn_moves((0,) * 63 + (1,))], [(), ((0, 0),), ((63, 0),)])

    def test_they_never_meet(self):
        for many in range(1, 9):
            for flags in itertools.product((0, 1), repeat=many):
                moves = self.calls(drawn_moves, (flags,))
                self.told([place for place, _ in moves], [place for place in range(many) if flags[place]])
                self.told([goal for _, goal in moves], list(range(sum(flags))))
                self.told(route_error(many, moves), None)

    def test_large_ones(self):
        chance = random.Random(44)
        for _ in range(200):
            flags = tuple([chance.choice((0, 1)) for _ in range(64)])
            self.told(route_error(64, drawn_moves(flags)), None)

    def test_calls(self):
        self.told(drawn_moves(flags=(0, 1)), ((1, 0),))


class DrawPrograms(Case):
    def draws(self, chance, area):
        room = len(area)
        program = draw_program(room)
        self.told(program_error(program), None)
        self.assertGreaterEqual(program[0], room)
        result = run(program, odd_memory(chance, area, program[0]))[:room]
        here = [record for record in area if record[0] == 1]
        for record, kept in zip(result, here):
            self.keeps(record, kept)
        for record in result[len(here):]:
            self.told(record[0], 0)

    def test_example(self):
        program, area = draw_program(5), ((0, 9), (1, "a"), (1, "b"), (0, 8), (1, "c"))
        behind = run(program, area + ((1, 1),) * (program[0] - 5))
        self.told([record[:2] for record in behind[:3]], [(1, "a"), (1, "b"), (1, "c")])
        self.told([record[0] for record in behind[3:5]], [0, 0])

    def test_all_flags_of_small_rooms(self):
        chance = random.Random(45)
        for room in range(1, 8):
            for flags in itertools.product((0, 1), repeat=room):
                self.draws(chance, tuple([(flag, place) for place, flag in enumerate(flags)]))

    def test_drawn_areas(self):
        chance = random.Random(46)
        for room in ROOMS:
            for most in (1, 2, 22):
                for _ in range(6):
                    self.draws(chance, random_area(chance, room, most))
            self.draws(chance, tuple([(1,) + ("a",) * 21] * room))
            self.draws(chance, tuple([(0,) + (1,) * 21] * room))
            self.draws(chance, tuple([(int(place == room - 1), place) for place in range(room)]))

    def test_calls(self):
        self.calls(draw_program, (5,))
        self.told(draw_program(room=5), draw_program(5))


class SpreadPrograms(Case):
    def spreads(self, chance, area, goals):
        """The first records of area go to goals."""
        room = len(area)
        program = spread_program(room)
        self.told(program_error(program), None)
        self.assertGreaterEqual(program[0], room)
        result = run(program, odd_memory(chance, area, program[0]))[:room]
        for record, goal in zip(area, goals):
            self.keeps(result[goal], record)
        for place in set(range(room)) - set(goals):
            self.told(result[place][0], 0)

    def spread_area(self, chance, room, goals, most=22):
        """An area whose first records have these goals."""
        area = []
        for goal in goals:
            record = (1, goal) + area_record(chance, 1, most - 1)[1:]
            area.append(record[:1] if goal == 0 and chance.random() < 0.5 else record)
        while len(area) < room:
            area.append(area_record(chance, 0, most))
        return tuple(area)

    def test_example(self):
        program, area = spread_program(5), ((1, 1, "a"), (1, 4, "b"), (0, 7), (0,), (0, 0, 0))
        behind = run(program, area + ((),) * (program[0] - 5))
        self.told([record[0] for record in behind[:5]], [0, 1, 0, 0, 1])
        self.told([behind[1][:3], behind[4][:3]], [(1, 1, "a"), (1, 4, "b")])

    def test_all_goals_of_small_rooms(self):
        chance = random.Random(47)
        for room in range(1, 8):
            for many in range(room + 1):
                for goals in itertools.combinations(range(room), many):
                    self.spreads(chance, self.spread_area(chance, room, goals, 5), goals)

    def test_drawn_goals(self):
        chance = random.Random(48)
        for room in ROOMS:
            for _ in range(12):
                goals = sorted(chance.sample(range(room), chance.choice((0, room, chance.randrange(room + 1)))))
                self.spreads(chance, self.spread_area(chance, room, goals), goals)

    def test_records_of_one_field_and_of_22(self):
        chance = random.Random(49)
        self.spreads(chance, ((1,), (0,), (0,)), (0,))
        self.spreads(chance, ((1,), (1, 2), (0,)), (0, 2))
        self.spreads(chance, ((1, 2) + ("z",) * 20, (0,) + (1,) * 21, (0, 1)), (2,))

    def test_calls(self):
        self.calls(spread_program, (5,))
        self.told(spread_program(room=5), spread_program(5))
