"""Points 1 to 3 over the whole program, and the interface: what places, rooms, deeds, forms, papers and desk tell."""

import importlib
import inspect
import math
import random
import unittest

import reference
from common import LEVELS, added, long_places, long_row, times
from fractionroads.checker import holds
from fractionroads.closed import border, closed_rows, crossing, is_closed, mirrored
from fractionroads.deeds import deed, deed_table, roads_led
from fractionroads.desk import Desk
from fractionroads.ends import end, ends, leading, place_at, width
from fractionroads.forms import told_by_forms
from fractionroads.levels import Level, symbols_counted
from fractionroads.papers import judged
from fractionroads.places import are_neighbours, place, way
from fractionroads.rooms import Room
from fractionroads.splits import closed_table, half_wide, new_counted, new_rows, trace, wide
from fractionroads.surface import cones_counted, folded_counted, genus, halves, thirds
from fractionroads.texts import show_walk
from fractionroads.turnings import led, multiplied
from fractionroads.turns import led_down, led_up, turned

ROOMS = {n: Room(Level(n)) for n in LEVELS}
# Of genus 0 and above, of one, two and three primes, with squares.
SOME_LEVELS = (1, 2, 4, 6, 11, 12, 15, 20, 23, 27, 30, 33, 36, 37, 42, 48)
INTERFACE = {
    "places": {"place": 2, "is_place": 1, "crossed": 2, "are_neighbours": 2, "steps_to": 1, "way": 2},
    "turnings": {"is_turning": 1, "led": 2, "multiplied": 2, "back": 1, "by_word": 1, "word_of": 1},
    "levels": {"symbols_counted": 1, "Level": 1},
    "ends": {"end": 2, "ends": 1, "place_at": 2, "leading": 3, "width": 2},
    "surface": {"halves": 1, "thirds": 1, "following": 1, "edges": 1, "triangles": 1, "corners": 1, "genus": 1,
                "folded_counted": 1, "cones_counted": 1},
    "rooms": {"Room": 1},
    "closed": {"border": 2, "is_closed": 2, "closed_rows": 1, "crossing": 3, "mirrored": 2},
    "deeds": {"roads_led": 4, "deed": 3, "deed_table": 2},
    "turns": {"turned": 3, "led_down": 4, "led_up": 3},
    "splits": {"closed_table": 2, "wide": 1, "half_wide": 2, "trace": 1, "new_rows": 1, "new_counted": 1},
    "forms": {"small_forms": 1, "weight": 1, "stays": 3, "told_by_forms": 2},
    "papers": {"judged": 3},
    "checker": {"holds": 1},
    "texts": {"show_place": 1, "show_walk": 1, "read_place": 1, "read_walk": 1},
    "desk": {"Desk": 0},
}
METHODS = {
    ("levels", "Level"): {"number": 0, "has": 1, "symbols": 0, "symbol": 2, "number_of": 2, "turning_of": 1},
    ("rooms", "Room"): {"level": 0, "kept": 0, "symbol_row": 2, "load_row": 1, "road_row": 2},
    ("desk", "Desk"): {"say": 1},
}


def neighbour_walk(chance, many):
    """A walk by chance, from neighbour to neighbour, a step there and back now and then."""
    spot, beside = (1, 0), (0, 1)
    told = [spot]
    for step in range(many):
        k = chance.choice((-2, -1, 0, 0, 1, 2, 10 ** 5))
        following = place(beside[0] + k * spot[0], beside[1] + k * spot[1])
        spot, beside = following, spot
        told.append(spot)
    return told


def level_turning(chance, n):
    """A turning of the level, by chance."""
    turning = ((1, 0), (0, 1))
    for step in range(4):
        turning = multiplied(turning, ((1, chance.randrange(-5, 6)), (0, 1)))
        turning = multiplied(turning, ((1, 0), (n * chance.randrange(-5, 6), 1)))
    return turning


class TestInterface(unittest.TestCase):
    def test_names_and_arguments(self):
        for module, names in INTERFACE.items():
            found = importlib.import_module(f"fractionroads.{module}")
            for name, many in names.items():
                self.assertEqual(len(inspect.signature(getattr(found, name)).parameters), many, f"{module}.{name}")
                self.assertEqual(getattr(found, name).__module__, f"fractionroads.{module}")

    def test_methods_are_the_classes_own(self):
        for (module, name), methods in METHODS.items():
            found = getattr(importlib.import_module(f"fractionroads.{module}"), name)
            for method, many in methods.items():
                self.assertIn(method, vars(found))
                self.assertEqual(len(inspect.signature(vars(found)[method]).parameters), many + 1)


class TestRoads(unittest.TestCase):
    def test_a_road_is_what_its_steps_come_to(self):
        for n, room in ROOMS.items():
            chance = random.Random(n)
            for many in (1, 5, 30):
                walk = neighbour_walk(chance, many)
                self.assertTrue(all(are_neighbours(one, other) for one, other in zip(walk, walk[1:])))
                load, straight = reference.steps_load(walk), reference.steps_load(way(walk[0], walk[-1]))
                self.assertEqual(room.load_row(load), room.road_row(walk[0], walk[-1]))
                paper = judged(room, load, straight)
                self.assertEqual(paper[0], "same")
                self.assertIs(holds(paper), True)

    def test_roads_led_by_the_level_are_the_same(self):
        for n, room in ROOMS.items():
            chance = random.Random(n)
            for one, other in zip(long_places()[::4], long_places()[1::4]):
                turning = level_turning(chance, n)
                self.assertTrue(room.level().has(turning))
                spots = led(turning, one), led(turning, other)
                self.assertEqual(room.road_row(*spots), room.road_row(one, other))
                self.assertIs(holds(("led", n, one, spots[0], turning)), True)
                self.assertIs(holds(("led", n, one, spots[0], leading(room.level(), one, spots[0]))), True)

    def test_walks_come_to_the_same_just_where_a_paper_tells_so(self):
        for n in SOME_LEVELS:
            room = ROOMS[n]
            chance = random.Random(n)
            walks = [neighbour_walk(chance, many) for many in (1, 2, 2, 3, 3, 4)]
            for one in walks:
                for other in walks:
                    paper = judged(room, reference.steps_load(one), reference.steps_load(other))
                    same = room.road_row(one[0], one[-1]) == room.road_row(other[0], other[-1])
                    self.assertEqual(paper[0], "same" if same else "apart")
                    self.assertIs(holds(paper), True)
                    self.assertTrue(reference.paper_holds(paper))

    def test_deeds_lead_roads_as_papers_tell(self):
        for n in SOME_LEVELS:
            level = ROOMS[n].level()
            for m in (1, 2, 6, 15):
                roads = roads_led(level, m, (2, 7), (-1, 3))
                self.assertIs(holds(("deed", n, m, (2, 7), (-1, 3), roads[::-1])), True)
                self.assertIs(holds(("deed", n, m, (2, 7), (-1, 3), roads[1:])), False)


class TestCounts(unittest.TestCase):
    def test_as_primes_and_rests_tell(self):
        for n in LEVELS:
            level = ROOMS[n].level()
            many = len(level.symbols())
            self.assertEqual(many, symbols_counted(n))
            self.assertEqual(sum(width(level, place_at(level, each)) for each in ends(level)), many)
            self.assertEqual(sum(number == other for number, other in enumerate(halves(level))), folded_counted(n))
            self.assertEqual(sum(number == other for number, other in enumerate(thirds(level))), cones_counted(n))
            # Twelve times the genus less one, by symbols, folded ones, cones and ends.
            twelve = many - 3 * folded_counted(n) - 4 * cones_counted(n) - 6 * len(ends(level))
            self.assertEqual(12 * (genus(level) - 1), twelve)

    def test_closed_roads_and_their_crossings(self):
        for n, room in ROOMS.items():
            rows = closed_rows(room)
            self.assertEqual(len(rows), 2 * genus(room.level()))
            table = [[crossing(room, one, other) for other in rows] for one in rows]
            self.assertEqual(reference.determinant(table), 1)

    def test_new_rows(self):
        for n, room in ROOMS.items():
            self.assertEqual(len(new_rows(room)), new_counted(n))


class TestDeeds(unittest.TestCase):
    def test_on_closed_tables(self):
        for n, room in ROOMS.items():
            tables = {m: closed_table(room, m) for m in (1, 2, 3, 4, 6, 9, 15, 5)}
            size = range(len(tables[1]))

            def product(one, other):
                return [[sum(one[row][at] * other[at][column] for at in size) for column in size] for row in size]

            for one in tables.values():
                for other in tables.values():
                    self.assertEqual(product(one, other), product(other, one))
            self.assertEqual(product(tables[2], tables[3]), tables[6])
            self.assertEqual(product(tables[5], tables[3]), tables[15])
            for p in (2, 3):
                square = tables[p * p]
                if n % p != 0:
                    square = [added(row, times(p, unit)) for row, unit in zip(square, tables[1])]
                self.assertEqual(product(tables[p], tables[p]), square)

    def test_half_twice_is_wide_and_forms_tell_the_trace(self):
        for n, room in ROOMS.items():
            for m in (1, 2, 5, 6, 13, 16):
                table = closed_table(room, m)
                half = half_wide(room, m)
                self.assertEqual(len(half), genus(room.level()) + 1)
                for x in (-3, 0, 1, 10):
                    one, both = [sum(number * x ** power for power, number in enumerate(numbers))
                                 for numbers in (half, wide(table))]
                    self.assertEqual(one * one, both)
                if math.gcd(m, n) == 1:
                    self.assertEqual(trace(table), 2 * told_by_forms(room.level(), m))

    def test_with_crossings_mirror_turns_and_lower_levels(self):
        for n in SOME_LEVELS:
            room = ROOMS[n]
            row, rows = long_row(room, n), closed_rows(room)
            parts = [q for q in range(1, n + 1) if n % q == 0 and math.gcd(q, n // q) == 1]
            for m in [m for m in (1, 2, 5, 7, 12) if math.gcd(m, n) == 1]:
                for one in rows:
                    self.assertTrue(all(crossing(room, deed(room, m, one), other) ==
                                        crossing(room, one, deed(room, m, other)) for other in rows))
                self.assertEqual(deed(room, m, mirrored(room, row)), mirrored(room, deed(room, m, row)))
                for q in parts:
                    self.assertEqual(deed(room, m, turned(room, q, row)), turned(room, q, deed(room, m, row)))
                for k in [k for k in range(1, n + 1) if n % k == 0]:
                    lower = ROOMS[k]
                    self.assertEqual(deed(lower, m, led_down(room, lower, n // k, row)),
                                     led_down(room, lower, n // k, deed(room, m, row)))


class TestTheDesk(unittest.TestCase):
    def test_what_it_tells_is_what_all_this_tells(self):
        for n in SOME_LEVELS:
            desk, room = Desk(), ROOMS[n]
            desk.say(f"level {n}")
            chance = random.Random(n)
            walks = [neighbour_walk(chance, 6), neighbour_walk(chance, 3)]
            for name, walk in zip("ab", walks):
                desk.say(f"walk {name} {show_walk(walk)}")
            rows = [room.road_row(walk[0], walk[-1]) for walk in walks]
            paper = judged(room, *[reference.steps_load(walk) for walk in walks])
            self.assertEqual(desk.say("same a b"), "yes" if paper[0] == "same" else "no")
            self.assertEqual(desk.say("border a"), " ".join(map(str, border(room, rows[0]))))
            ended = end(room.level(), walks[0][-1])
            self.assertEqual(desk.say(f"end {walks[0][-1][0]}/{walks[0][-1][1]}"), f"{ended[0]},{ended[1]}")
            if is_closed(room, rows[0]) and is_closed(room, rows[1]):
                self.assertEqual(desk.say("cross a b"), str(crossing(room, *rows)))
            if math.gcd(7, n) == 1:
                self.assertEqual(int(desk.say("trace 7")), 2 * int(desk.say("forms 7")))


class TestLevelsAndRoomsStay(unittest.TestCase):
    def told(self, room):
        level = room.level()
        symbols = level.symbols()
        return (level.number(), symbols, room.kept(), [room.symbol_row(u, v) for u, v in symbols], closed_rows(room),
                deed_table(room, 2), [level.turning_of(k) for k in range(len(symbols))])

    def test_behind_all_that_is_asked(self):
        for n in (1, 6, 11, 22, 36, 37):
            room = Room(Level(n))
            before = self.told(room)
            row = long_row(room, n)
            judged(room, [(1, 0, 1)], [(0, 1, 3)])
            for ask in (lambda: turned(room, n, row), lambda: led_down(room, Room(Level(1)), 1, row),
                        lambda: led_up(room, room, row), lambda: closed_table(room, 3), lambda: new_rows(room),
                        lambda: half_wide(room, 2), lambda: told_by_forms(room.level(), 1),
                        lambda: judged(room, [], [(1, 1, 4)])[4], lambda: mirrored(room, row)):
                told = ask()
                if isinstance(told, list):
                    told.clear()
                self.assertEqual(self.told(room), before)


if __name__ == "__main__":
    unittest.main()
