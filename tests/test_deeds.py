"""Points 20 and 21: the roads that deeds lead roads to, deeds of rows, their tables; point 2 of what they tell."""

import math
import unittest
from fractions import Fraction

from common import LEVELS, LONGEST, OTHER_THINGS, added, long_places, long_row, refusal, times
from fractionroads.closed import closed_rows, crossing, is_closed, mirrored
from fractionroads.deeds import deed, deed_table, roads_led
from fractionroads.errors import NoDeed, NoRow
from fractionroads.levels import Level
from fractionroads.places import is_place
from fractionroads.rooms import Room
from fractionroads.turnings import led

ROOMS = {n: Room(Level(n)) for n in LEVELS}
DEEDS = range(1, 21)
TABLES = {(n, m): deed_table(ROOMS[n], m) for n in LEVELS for m in DEEDS}
NO_DEEDS = (0, -1, 21, -20, LONGEST, -LONGEST, 10 ** 60 - 1, [1], (1,), [2], (20,), *OTHER_THINGS)
SOME_LEVELS = (1, 2, 6, 11, 12, 14, 23, 25, 30, 37, 42, 48)
# Curves y y + a x y + b y = x x x + c x x + d x + e, (a, c, b, d, e) told for each level of genus 1: how many
# points one has by a prime tells what the prime's deed makes of the closed rows.
CURVES = {11: (0, -1, 1, -10, -20), 14: (1, 0, 1, 4, -6), 15: (1, 1, 1, -10, -10), 17: (1, -1, 1, -1, -14),
          19: (0, 1, 1, -9, -15), 20: (0, 1, 0, 4, 4), 21: (1, 0, 0, -4, -1), 24: (0, -1, 0, -4, 4),
          27: (0, 0, 1, 0, -7), 32: (0, 0, 0, 4, 0), 36: (0, 0, 0, 0, 1)}


def tables_added(*tables):
    return [added(*rows) for rows in zip(*tables)]


def through(one, other):
    """The table of what the one does, and the other then does."""
    return [added([0] * len(row), *[times(number, other[at]) for at, number in enumerate(row)]) for row in one]


def spot_of(a, b, d, spot):
    """Where (a x + b) / d is, by fractions."""
    if spot == (1, 0):
        return (1, 0)
    told = (a * Fraction(*spot) + b) / d
    return (told.numerator, told.denominator)


def roads_by_meaning(n, m, one, other):
    told = []
    for d in range(1, m + 1):
        if m % d == 0 and math.gcd(m // d, n) == 1:
            told += [(spot_of(m // d, b, d, one), spot_of(m // d, b, d, other)) for b in range(d)]
    return told


class TestRoadsLed(unittest.TestCase):
    def test_examples(self):
        self.assertEqual(roads_led(Level(11), 1, (1, 2), (1, 0)), [((1, 2), (1, 0))])
        self.assertEqual(roads_led(Level(11), 2, (0, 1), (1, 0)),
                         [((0, 1), (1, 0)), ((0, 1), (1, 0)), ((1, 2), (1, 0))])
        self.assertEqual(roads_led(Level(6), 2, (0, 1), (1, 3)), [((0, 1), (1, 6)), ((1, 2), (2, 3))])
        self.assertEqual(roads_led(Level(5), 4, (-1, 1), (1, 3)),
                         [((-4, 1), (4, 3)), ((-1, 1), (1, 3)), ((-1, 2), (5, 6)), ((-1, 4), (1, 12)), ((0, 1), (1, 3)),
                          ((1, 4), (7, 12)), ((1, 2), (5, 6))])
        self.assertEqual(len(roads_led(Level(10), 6, (0, 1), (1, 0))), 8)

    def test_every_level_and_deed(self):
        spots = [(1, 0), (0, 1), (-3, 4), (7, 5)]
        for n in LEVELS:
            level = ROOMS[n].level()
            for m in DEEDS:
                for one, other in ((spots[0], spots[1]), (spots[2], spots[3]), (spots[3], spots[3])):
                    self.assertEqual(roads_led(level, m, one, other), roads_by_meaning(n, m, one, other))

    def test_long_numbers(self):
        for n in (1, 6, 35):
            for m in (1, 7, 12, 20):
                for one, other in zip(long_places(), long_places()[3:]):
                    told = roads_led(Level(n), m, one, other)
                    self.assertEqual(told, roads_by_meaning(n, m, one, other))
                    self.assertTrue(all(is_place(spot) for road in told for spot in road))

    def test_kinds(self):
        told = roads_led(Level(5), 6, (1, 3), (1, 0))
        self.assertIs(type(told), list)
        self.assertEqual({type(road) for road in told}, {tuple})
        self.assertEqual({type(spot) for road in told for spot in road}, {tuple})

    def test_no_deed(self):
        for thing in NO_DEEDS:
            with self.subTest(repr(thing)[:60]):
                for n in (1, 11, 48):
                    self.assertIs(refusal(roads_led, Level(n), thing, (0, 1), (1, 0)), NoDeed)


class TestDeedOfRoads(unittest.TestCase):
    def summed(self, room, roads):
        return added([0] * len(room.kept()), *[room.road_row(one, other) for one, other in roads])

    def test_kept_symbols_roads(self):
        for n in LEVELS:
            room = ROOMS[n]
            level = room.level()
            for m in (1, 2, 3, 4, 6, 20):
                table = TABLES[(n, m)]
                self.assertEqual(len(table), len(room.kept()))
                for number, row in zip(room.kept(), table):
                    turning = level.turning_of(number)
                    one, other = led(turning, (0, 1)), led(turning, (1, 0))
                    self.assertEqual(row, self.summed(room, roads_led(level, m, one, other)))

    def test_other_roads(self):
        spots = [(1, 0), (0, 1), (-3, 4), (7, 5), (2, 11), *long_places()[::7]]
        for n in LEVELS:
            room = ROOMS[n]
            for m in (1, 2, 3, 8, 11, 18):
                for one, other in zip(spots, spots[1:]):
                    row = self.summed(room, roads_led(room.level(), m, one, other))
                    self.assertEqual(deed(room, m, room.road_row(one, other)), row)

    def test_every_deed_of_a_road(self):
        for n in SOME_LEVELS:
            room = ROOMS[n]
            for m in DEEDS:
                row = self.summed(room, roads_led(room.level(), m, (2, 7), (-1, 3)))
                self.assertEqual(deed(room, m, room.road_row((2, 7), (-1, 3))), row)


class TestDeedOfRows(unittest.TestCase):
    def test_by_the_table(self):
        for n in LEVELS:
            room = ROOMS[n]
            for m in (1, 5, 12):
                row = long_row(room, n + m)
                told = deed(room, m, row)
                self.assertIs(type(told), list)
                self.assertEqual(told, through([row], TABLES[(n, m)])[0])
                for at in range(len(row)):
                    unit = [int(place == at) for place in range(len(row))]
                    self.assertEqual(deed(room, m, unit), TABLES[(n, m)][at])

    def test_kinds(self):
        for (n, m), table in TABLES.items():
            self.assertIs(type(table), list)
            for row in table:
                self.assertIs(type(row), list)
                self.assertEqual(len(row), len(table))
                self.assertEqual({type(number) for number in row}, {int})

    def test_level_1(self):
        self.assertEqual(deed(ROOMS[1], 7, []), [])
        self.assertEqual(deed_table(ROOMS[1], 7), [])

    def test_an_example(self):
        """At level 2 the one kept road leads between the two ends: it is as often led to itself as 1 and p tell."""
        for p, many in ((2, 1), (3, 4), (5, 6), (7, 8), (11, 12)):
            self.assertEqual(deed(ROOMS[2], p, [1]), [many])


class TestRefusals(unittest.TestCase):
    def test_no_deed(self):
        for n in (1, 2, 11, 48):
            room = ROOMS[n]
            noughts = [0] * len(room.kept())
            for thing in NO_DEEDS:
                with self.subTest(f"{n} {repr(thing)[:60]}"):
                    self.assertIs(refusal(deed, room, thing, noughts), NoDeed)
                    self.assertIs(refusal(deed_table, room, thing), NoDeed)

    def test_no_row(self):
        for n in (1, 2, 11, 48):
            room = ROOMS[n]
            many = len(room.kept())
            things = [thing for thing in OTHER_THINGS if thing != []]
            things += [[0] * (many + 1), (0,) * many, 0, "0", [True] * (many + 1), [0] * 2000]
            if many:
                things += [[], [0] * (many - 1), [0] * (many - 1) + [True], ["0"] * many, [None] * many, [[0]] * many]
            for thing in things:
                with self.subTest(f"{n} {repr(thing)[:60]}"):
                    self.assertIs(refusal(deed, room, 1, thing), NoRow)
                    self.assertIs(refusal(deed, room, 20, thing), NoRow)

    def test_no_deed_ahead_of_no_row(self):
        for m in NO_DEEDS:
            for row in ([], "x", None, [True], [0] * 30, (0, 0, 0)):
                self.assertIs(refusal(deed, ROOMS[11], m, row), NoDeed)

    def test_things_that_were_refused_stay(self):
        thing, row = [[1], 2], [0, [1]]
        refusal(deed, ROOMS[11], thing, row)
        refusal(deed, ROOMS[11], 2, row)
        refusal(deed_table, ROOMS[11], thing)
        refusal(roads_led, ROOMS[11].level(), thing, (0, 1), (1, 0))
        self.assertEqual((thing, row), ([[1], 2], [0, [1]]))


class TestTogether(unittest.TestCase):
    def test_either_order(self):
        for n in SOME_LEVELS:
            for k in DEEDS:
                for m in range(1, k):
                    one, other = TABLES[(n, k)], TABLES[(n, m)]
                    self.assertEqual(through(one, other), through(other, one))

    def test_products_without_a_common_divisor(self):
        for n in LEVELS:
            for k in DEEDS:
                for m in DEEDS:
                    if k * m <= 20 and math.gcd(k, m) == 1:
                        self.assertEqual(through(TABLES[(n, k)], TABLES[(n, m)]), TABLES[(n, k * m)])

    def test_powers_of_a_prime(self):
        for n in LEVELS:
            for p, most in ((2, 4), (3, 2)):
                for k in range(1, most):
                    told = TABLES[(n, p ** (k + 1))]
                    if n % p != 0:
                        told = tables_added(told, [times(p, row) for row in TABLES[(n, p ** (k - 1))]])
                    self.assertEqual(through(TABLES[(n, p ** k)], TABLES[(n, p)]), told)

    def test_the_deed_1_leaves_all(self):
        for n in LEVELS:
            row = long_row(ROOMS[n], n)
            self.assertEqual(deed(ROOMS[n], 1, row), row)

    def test_closed_rows_crossings_and_the_mirror(self):
        for n in SOME_LEVELS:
            room = ROOMS[n]
            rows = closed_rows(room)
            for m in (2, 3, 5, 6, 9, 13):
                self.assertTrue(all(is_closed(room, deed(room, m, row)) for row in rows))
                if math.gcd(m, n) == 1:
                    for one in rows:
                        for other in rows:
                            told = crossing(room, deed(room, m, one), other)
                            self.assertEqual(told, crossing(room, one, deed(room, m, other)))
                row = long_row(room, n + m)
                self.assertEqual(mirrored(room, deed(room, m, row)), deed(room, m, mirrored(room, row)))


class TestPointsOfCurves(unittest.TestCase):
    def points(self, curve, p):
        a, c, b, d, e = curve
        return 1 + len([0 for x in range(p) for y in range(p)
                        if (y * y + a * x * y + b * y - x ** 3 - c * x * x - d * x - e) % p == 0])

    def test_levels_of_genus_1(self):
        for n, curve in CURVES.items():
            room = ROOMS[n]
            for p in (2, 3, 5, 7, 11, 13, 17, 19):
                if n % p != 0:
                    many = p + 1 - self.points(curve, p)
                    for row in closed_rows(room):
                        self.assertEqual(deed(room, p, row), times(many, row))


class TestPointTwo(unittest.TestCase):
    def test_what_is_handed_in_stays(self):
        for n in SOME_LEVELS:
            row = long_row(ROOMS[n], n)
            kept = list(row)
            told = deed(ROOMS[n], 6, row)
            self.assertEqual(row, kept)
            before = list(told)
            row.append(1)
            self.assertEqual(told, before)

    def test_the_deed_1_tells_a_list_of_its_own(self):
        row = ROOMS[11].road_row((0, 1), (1, 0))
        kept = list(row)
        deed(ROOMS[11], 1, row)[0] = "other"
        self.assertEqual(row, kept)

    def test_told_lists(self):
        for n in SOME_LEVELS:
            room = Room(Level(n))
            for m in (1, 2, 6):
                row = room.road_row((0, 1), (1, 0))
                for ask in (lambda: roads_led(room.level(), m, (0, 1), (1, 0)), lambda: deed(room, m, row)):
                    earlier = ask()
                    kept = list(earlier)
                    told = ask()
                    told.append("more")
                    told[0] = "other"
                    self.assertEqual(ask(), kept)
                    self.assertEqual(earlier, kept)

    def test_told_tables(self):
        for n in SOME_LEVELS:
            room = Room(Level(n))
            for m in (1, 2, 6):
                earlier = deed_table(room, m)
                kept = [list(row) for row in earlier]
                told = deed_table(room, m)
                for row in told:
                    row[0] = "other"
                    row.append("more")
                told.clear()
                self.assertEqual(deed_table(room, m), kept)
                self.assertEqual(earlier, kept)


if __name__ == "__main__":
    unittest.main()
