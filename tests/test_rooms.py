"""Points 13, 14 and 15: loads, kept symbols, rows of symbols, loads and roads; point 2 of what they tell."""

import math
import unittest

import reference
from common import (LEVELS, LONG, LONGEST, PRIME, SMALL_PLACES, added, long_places, random_load, refusal,
                    times)
from fractionroads.ends import ends
from fractionroads.errors import NoSymbol
from fractionroads.levels import Level
from fractionroads.places import place, steps_to, way
from fractionroads.rooms import Room
from fractionroads.surface import genus, halves, thirds
from fractionroads.turnings import led, multiplied

ROOMS = {n: Room(Level(n)) for n in LEVELS}
SOME_LEVELS = (1, 2, 3, 5, 7, 11, 12, 13, 16, 22, 30, 37, 42, 48)


def detours(walk):
    """The same walk along other neighbours: between each two places one that neighbours both."""
    told = [walk[0]]
    for at, (one, other) in enumerate(zip(walk, walk[1:])):
        sign = -1 if at % 2 else 1
        told += [place(one[0] + sign * other[0], one[1] + sign * other[1]), other]
    return told


def upper_walk(spot):
    """A walk from (1, 0) to a place by the least whole number not below it, each time."""
    before, last = (0, -1), (1, 0)
    told = [last]
    top, bottom = spot
    while bottom != 0:
        number = -(-top // bottom)
        before, last = last, (number * last[0] - before[0], number * last[1] - before[1])
        told.append(place(*last))
        top, bottom = bottom, number * bottom - top
    return told


class TestKept(unittest.TestCase):
    def test_how_many(self):
        for room in ROOMS.values():
            level = room.level()
            kept = room.kept()
            self.assertIs(type(kept), list)
            self.assertEqual(len(kept), 2 * genus(level) + len(ends(level)) - 1)
            self.assertEqual(kept, sorted(set(kept)))
            self.assertEqual({type(number) for number in kept} - {int}, set())
            self.assertTrue(set(kept) <= set(range(len(level.symbols()))))

    def test_as_many_as_the_relations_leave(self):
        for n in LEVELS:
            vectors = reference.relation_vectors(n)
            self.assertEqual(len(ROOMS[n].kept()), len(vectors[0]) - reference.rank(vectors))

    def test_none_at_level_1(self):
        self.assertEqual(ROOMS[1].kept(), [])
        self.assertEqual(ROOMS[1].symbol_row(0, 0), [])
        self.assertEqual(ROOMS[1].load_row([(5, 7, 3)]), [])
        self.assertEqual(ROOMS[1].road_row((1, 0), (3, 7)), [])

    def test_the_level(self):
        for n in SOME_LEVELS:
            level = Level(n)
            self.assertIs(Room(level).level(), level)


class TestSymbolRow(unittest.TestCase):
    def test_kept_symbols(self):
        for room in ROOMS.values():
            symbols = room.level().symbols()
            for at, number in enumerate(room.kept()):
                row = [0] * len(room.kept())
                row[at] = 1
                self.assertEqual(room.symbol_row(*symbols[number]), row)

    def test_relations(self):
        for room in ROOMS.values():
            level = room.level()
            rows = [room.symbol_row(u, v) for u, v in level.symbols()]
            half, third = halves(level), thirds(level)
            noughts = [0] * len(room.kept())
            for x, row in enumerate(rows):
                self.assertIs(type(row), list)
                self.assertEqual(len(row), len(noughts))
                self.assertEqual({type(number) for number in row} - {int}, set())
                self.assertEqual(added(row, rows[half[x]]), noughts)
                self.assertEqual(added(row, rows[third[x]], rows[third[third[x]]]), noughts)
                if half[x] == x or third[x] == x:
                    self.assertEqual(row, noughts)

    def test_by_other_pairs(self):
        for n in SOME_LEVELS:
            room = ROOMS[n]
            k = next(k for k in range(PRIME, PRIME + 50) if math.gcd(k, n) == 1)
            for u, v in room.level().symbols():
                self.assertEqual(room.symbol_row(k * u, k * v), room.symbol_row(u, v))
                self.assertEqual(room.symbol_row(-u, -v), room.symbol_row(u, v))
                self.assertEqual(room.symbol_row(u - n * 10 ** 28, v + n * 10 ** 28), room.symbol_row(u, v))

    def test_no_symbol(self):
        for n in LEVELS[1:]:
            for pair in ((0, 0), (n, 0), (0, n), (n * PRIME, -n), (-n, n * 10 ** 28)):
                self.assertIs(refusal(ROOMS[n].symbol_row, *pair), NoSymbol)
        self.assertIs(refusal(ROOMS[12].symbol_row, 3, 6), NoSymbol)
        self.assertIs(refusal(ROOMS[12].symbol_row, -8, 2), NoSymbol)


class TestLoadRow(unittest.TestCase):
    def by_symbols(self, room, load):
        row = [0] * len(room.kept())
        for u, v, k in load:
            row = added(row, times(k, room.symbol_row(u, v)))
        return row

    def test_examples(self):
        for n in LEVELS:
            room = ROOMS[n]
            self.assertEqual(room.load_row([]), [0] * len(room.kept()))
            self.assertEqual(room.load_row([(0, 1, 1)]), room.symbol_row(0, 1))
            self.assertEqual(room.load_row([(0, 1, 7), (1, 0, 7)]), [0] * len(room.kept()))
            self.assertEqual(room.load_row([(1, 3, 0)]), [0] * len(room.kept()))
            self.assertEqual(room.load_row([(1, 3, 2), (1, 3, -5)]), times(-3, room.symbol_row(1, 3)))

    def test_sums(self):
        for n in LEVELS:
            for many, figures in ((1, 60), (5, 3), (40, 60)):
                load = random_load(ROOMS[n].level(), n + many, many, figures)
                self.assertEqual(ROOMS[n].load_row(load), self.by_symbols(ROOMS[n], load))

    def test_two_hundred_of_sixty_figures(self):
        for n in SOME_LEVELS:
            load = random_load(ROOMS[n].level(), n, 198, 60)
            load += [(1, LONGEST - LONGEST % n, LONG), (1, 0, -LONG)]
            self.assertEqual(ROOMS[n].load_row(load), self.by_symbols(ROOMS[n], load[:-2]))

    def test_loads_that_differ_by_relations(self):
        for n in SOME_LEVELS:
            room = ROOMS[n]
            symbols = room.level().symbols()
            load = random_load(room.level(), n, 9, 20)
            more = list(load)
            for at, relation in enumerate(reference.relations(n)):
                more += [(*symbols[x], (-1) ** at * (10 ** 40 + at)) for x in relation]
            self.assertEqual(room.load_row(more), room.load_row(load))

    def test_the_same_just_where_another_room_tells_so(self):
        for n in (2, 6, 11, 15, 22):
            other = reference.OtherRoom(n, n)
            loads = [[(u, v, 1)] for u, v in other.symbols]
            loads += [one + second for one in loads[::3] for second in loads[::4]]
            rows = [ROOMS[n].load_row(load) for load in loads]
            vectors = [other.load_vector(load) for load in loads]
            for at, row in enumerate(rows):
                for earlier in range(at):
                    self.assertEqual(row == rows[earlier], vectors[at] == vectors[earlier])

    def test_no_symbol(self):
        for n in LEVELS[1:]:
            for load in ([(0, 0, 1)], [(1, 0, 1), (n, n, 1)], [(n, 0, 0)], [(0, n * PRIME, LONG), (1, 0, 1)]):
                self.assertIs(refusal(ROOMS[n].load_row, load), NoSymbol)

    def test_what_is_handed_in_stays(self):
        load = [(1, 3, 2), (-5, 2, 10 ** 59)]
        kept = list(load)
        row = ROOMS[11].load_row(load)
        self.assertEqual(load, kept)
        told = list(row)
        load.append((1, 4, 1))
        self.assertEqual(row, told)
        self.assertEqual(ROOMS[11].load_row(kept), told)
        bad = [(1, 0, 1), (11, 0, 1)]
        refusal(ROOMS[11].load_row, bad)
        self.assertEqual(bad, [(1, 0, 1), (11, 0, 1)])


class TestRoadRow(unittest.TestCase):
    def test_the_road_of_a_symbol(self):
        for room in ROOMS.values():
            level = room.level()
            for k, pair in enumerate(level.symbols()):
                turning = level.turning_of(k)
                row = room.road_row(led(turning, (0, 1)), led(turning, (1, 0)))
                self.assertEqual(row, room.symbol_row(*pair))

    def test_a_road_from_nought_to_the_place_beyond(self):
        for room in ROOMS.values():
            self.assertEqual(room.road_row((0, 1), (1, 0)), room.symbol_row(0, 1))
            self.assertEqual(room.road_row((1, 0), (0, 1)), room.symbol_row(1, 0))

    def test_by_the_way_of_point_5(self):
        for room in ROOMS.values():
            for one in SMALL_PLACES[::3] + long_places()[::5]:
                for other in SMALL_PLACES[::7] + long_places()[::7]:
                    load = reference.steps_load(way(one, other))
                    self.assertEqual(room.road_row(one, other), room.load_row(load))

    def test_by_other_neighbours(self):
        for room in ROOMS.values():
            for spot in SMALL_PLACES[1::3] + long_places()[::3]:
                row = room.road_row((1, 0), spot)
                walk = detours(steps_to(spot))
                self.assertEqual(room.load_row(reference.steps_load(walk)), row)
                self.assertEqual(room.load_row(reference.steps_load(detours(walk))), row)

    def test_by_the_numbers_above(self):
        for room in ROOMS.values():
            for spot in SMALL_PLACES[1:]:
                walk = upper_walk(spot)
                self.assertEqual(walk[-1], spot)
                self.assertEqual(room.load_row(reference.steps_load(walk)), room.road_row((1, 0), spot))

    def test_roads_that_go_on(self):
        for room in ROOMS.values():
            spots = SMALL_PLACES[::9] + long_places()[::5]
            for one in spots:
                self.assertEqual(room.road_row(one, one), [0] * len(room.kept()))
                for other in spots:
                    there = room.road_row(one, other)
                    self.assertEqual(there, times(-1, room.road_row(other, one)))
                    for third in spots[::2]:
                        self.assertEqual(added(there, room.road_row(other, third)), room.road_row(one, third))

    def test_led_by_the_level(self):
        for n, room in ROOMS.items():
            turnings = [((1, 1), (0, 1)), ((1, 0), (n, 1)), ((1, 0), (-n * 10 ** 9, 1)), ((-1, 4), (0, -1))]
            turnings.append(multiplied(multiplied(turnings[2], turnings[3]), turnings[1]))
            for turning in turnings:
                for one in SMALL_PLACES[::8] + long_places()[::6]:
                    for other in SMALL_PLACES[::11] + long_places()[1::7]:
                        row = room.road_row(led(turning, one), led(turning, other))
                        self.assertEqual(row, room.road_row(one, other))

    def test_long_numbers_that_were_told(self):
        turning = ((1, 0), (11, 1))
        for step in range(60):
            turning = multiplied(turning, ((1, 10 ** 20 + step), (0, 1)))
            turning = multiplied(turning, ((1, 0), (-11, 1)))
        far, further = led(turning, (1, 0)), led(turning, (0, 1))
        self.assertTrue(10 ** 1000 < abs(far[0]) < 10 ** 2000)
        self.assertEqual(ROOMS[11].road_row(further, far), ROOMS[11].symbol_row(0, 1))


class TestToldLists(unittest.TestCase):
    def test_rows_and_kept(self):
        for n in SOME_LEVELS:
            room = Room(Level(n))
            asks = [room.kept, lambda: room.symbol_row(0, 1), lambda: room.symbol_row(1, 0),
                    lambda: room.symbol_row(1, 1), lambda: room.load_row([(0, 1, 5)]), lambda: room.load_row([]),
                    lambda: room.road_row((0, 1), (1, 0)), lambda: room.road_row((1, 0), (1, 0))]
            before = [list(ask()) for ask in asks]
            earlier = [ask() for ask in asks]
            for ask in asks:
                told = ask()
                told.append("more")
                told[0] = "other"
                self.assertEqual([other() for other in asks], before)
            self.assertEqual(earlier, before)

    def test_all_symbols_of_a_room_that_was_meddled_with(self):
        room = Room(Level(37))
        symbols = room.level().symbols()
        before = [room.symbol_row(u, v) for u, v in symbols]
        for u, v in symbols:
            room.symbol_row(u, v).clear()
        room.kept().clear()
        room.level().symbols().clear()
        self.assertEqual([room.symbol_row(u, v) for u, v in symbols], before)
        self.assertEqual(len(room.kept()), 5)

    def test_two_rooms_of_one_level(self):
        level = Level(23)
        one, other = Room(level), Room(level)
        one.kept().clear()
        for room in (one, other):
            for at, number in enumerate(room.kept()):
                self.assertEqual(room.symbol_row(*level.symbols()[number])[at], 1)


if __name__ == "__main__":
    unittest.main()
