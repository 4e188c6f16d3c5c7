"""Points 16 to 19, and 14 of what a row is: borders, closed rows, crossings, the mirror; point 2 of what they tell."""

import random
import unittest

import reference
from common import LEVELS, LONG, SMALL_PLACES, added, long_places, long_row, no_rows, refusal, times
from fractionroads.closed import border, closed_rows, crossing, is_closed, mirrored
from fractionroads.ends import end, ends, place_at
from fractionroads.errors import NoRow, NotClosed
from fractionroads.levels import Level
from fractionroads.places import way
from fractionroads.rooms import Room
from fractionroads.surface import genus
from fractionroads.turnings import led

ROOMS = {n: Room(Level(n)) for n in LEVELS}
CLOSED = {n: closed_rows(room) for n, room in ROOMS.items()}
# Levels of genus above 0; of more than two ends, of folded symbols, of cones among them.
SOME_LEVELS = (11, 14, 17, 19, 22, 23, 26, 27, 30, 36, 37, 42, 48)


def summed(room, rows, many):
    told = [0] * len(room.kept())
    for row, number in zip(rows, many):
        told = added(told, times(number, row))
    return told


def closed_loads(n, many, seed):
    """Loads of walks from places to places at the same end, taken some times, with closed rows."""
    chance = random.Random(seed)
    level = ROOMS[n].level()
    spots = SMALL_PLACES + [led(((1, 0), (n, 1)), spot) for spot in SMALL_PLACES] + long_places()
    told = []
    while len(told) < many:
        one, other = chance.choice(spots), chance.choice(spots)
        if end(level, one) == end(level, other):
            k = chance.choice([1, -1, 3, 10 ** 59])
            told.append([(u, v, k * sign) for u, v, sign in reference.steps_load(way(one, other))])
    return told


class TestBorder(unittest.TestCase):
    def test_kept_symbols(self):
        for room in ROOMS.values():
            level = room.level()
            order = ends(level)
            for at, number in enumerate(room.kept()):
                unit = [0] * len(room.kept())
                unit[at] = 1
                told = [0] * len(order)
                told[order.index(end(level, led(level.turning_of(number), (1, 0))))] += 1
                told[order.index(end(level, led(level.turning_of(number), (0, 1))))] -= 1
                self.assertEqual(border(room, unit), told)
                self.assertEqual(border(room, times(-LONG, unit)), times(-LONG, told))

    def test_roads(self):
        for room in ROOMS.values():
            level = room.level()
            order = ends(level)
            for one in SMALL_PLACES[::4] + long_places()[::5]:
                for other in SMALL_PLACES[::5] + long_places()[::6]:
                    told = [0] * len(order)
                    told[order.index(end(level, other))] += 1
                    told[order.index(end(level, one))] -= 1
                    row = room.road_row(one, other)
                    self.assertEqual(border(room, row), told)
                    self.assertIs(is_closed(room, row), end(level, one) == end(level, other))

    def test_an_example(self):
        room = ROOMS[11]
        self.assertEqual(border(room, room.road_row((0, 1), (1, 0))), [-1, 1])
        self.assertEqual(border(room, room.road_row((1, 0), (0, 1))), [1, -1])
        self.assertEqual(border(room, room.road_row((0, 1), (1, 2))), [0, 0])
        self.assertEqual(border(ROOMS[1], []), [0])

    def test_sums(self):
        for room in ROOMS.values():
            one, other = long_row(room, 1), long_row(room, 2)
            both = border(room, added(times(3, one), other))
            self.assertEqual(both, added(times(3, border(room, one)), border(room, other)))
            self.assertEqual(sum(both), 0)
            self.assertEqual(len(both), len(ends(room.level())))
            self.assertIs(type(both), list)

    def test_each_border_that_comes_to_nought_is_one(self):
        for room in ROOMS.values():
            level = room.level()
            spots = [place_at(level, told) for told in ends(level)]
            for at, spot in enumerate(spots):
                told = border(room, room.road_row(spots[0], spot))
                self.assertEqual([place for place, number in enumerate(told) if number != 0], [0, at] if at else [])


class TestIsClosed(unittest.TestCase):
    def test_noughts(self):
        for room in ROOMS.values():
            self.assertIs(is_closed(room, [0] * len(room.kept())), True)

    def test_just_where_the_border_has_noughts(self):
        for n, room in ROOMS.items():
            for at in range(len(room.kept())):
                row = [0] * len(room.kept())
                row[at] = LONG
                self.assertIs(is_closed(room, row), border(room, row) == [0] * len(ends(room.level())))
            for row in CLOSED[n]:
                self.assertIs(is_closed(room, times(LONG, row)), True)


class TestNoRow(unittest.TestCase):
    def test_each_that_takes_a_row(self):
        for n in (1, 2, 11, 12, 37, 48):
            room = ROOMS[n]
            for thing in no_rows(room):
                with self.subTest(f"{n} {repr(thing)[:60]}"):
                    self.assertIs(refusal(border, room, thing), NoRow)
                    self.assertIs(refusal(is_closed, room, thing), NoRow)
                    self.assertIs(refusal(mirrored, room, thing), NoRow)

    def test_crossing(self):
        for n in (1, 2, 11, 12, 37, 48):
            room = ROOMS[n]
            noughts = [0] * len(room.kept())
            for thing in no_rows(room):
                with self.subTest(f"{n} {repr(thing)[:60]}"):
                    self.assertIs(refusal(crossing, room, thing, noughts), NoRow)
                    self.assertIs(refusal(crossing, room, noughts, thing), NoRow)
                    self.assertIs(refusal(crossing, room, thing, thing), NoRow)

    def test_no_row_ahead_of_not_closed(self):
        for n in (2, 11, 12, 37, 48):
            room = ROOMS[n]
            noughts = [0] * len(room.kept())
            opened = room.road_row((0, 1), (1, 0))
            self.assertIs(refusal(crossing, room, opened, noughts), NotClosed)
            self.assertIs(refusal(crossing, room, noughts, opened), NotClosed)
            self.assertIs(refusal(crossing, room, opened, opened), NotClosed)
            for thing in no_rows(room):
                self.assertIs(refusal(crossing, room, opened, thing), NoRow)
                self.assertIs(refusal(crossing, room, thing, opened), NoRow)

    def test_rows_of_other_levels(self):
        for ask in (border, is_closed, mirrored):
            self.assertIs(refusal(ask, ROOMS[11], [0] * len(ROOMS[12].kept())), NoRow)

    def test_things_that_were_refused_stay(self):
        thing = [[1], 2]
        for ask in (border, is_closed, mirrored):
            refusal(ask, ROOMS[11], thing)
        refusal(crossing, ROOMS[11], thing, thing)
        self.assertEqual(thing, [[1], 2])


class TestClosedRows(unittest.TestCase):
    def test_twice_the_genus(self):
        for n, room in ROOMS.items():
            self.assertIs(type(CLOSED[n]), list)
            self.assertEqual(len(CLOSED[n]), 2 * genus(room.level()))
            for row in CLOSED[n]:
                self.assertIs(type(row), list)
                self.assertIs(is_closed(room, row), True)

    def test_the_same_each_time(self):
        for n, room in ROOMS.items():
            self.assertEqual(closed_rows(room), CLOSED[n])

    def test_each_closed_row_is_just_one_sum(self):
        for n in SOME_LEVELS:
            self.assertEqual(reference.rank(CLOSED[n]), len(CLOSED[n]))
            for load in closed_loads(n, 12, n):
                row = ROOMS[n].load_row(load)
                shares = reference.shares_of(CLOSED[n], row)
                self.assertIsNotNone(shares)
                self.assertTrue(all(share.denominator == 1 for share in shares))
                self.assertEqual(summed(ROOMS[n], CLOSED[n], [int(share) for share in shares]), row)

    def test_no_closed_rows_but_their_sums(self):
        """Each row has 1 or -1 where the others can be made to have 0, so that no others make whole numbers."""
        for n, rows in CLOSED.items():
            left = [list(row) for row in rows]
            while left:
                row = left.pop()
                at = next(at for at, number in enumerate(row) if number in (1, -1))
                left = [added(other, times(-other[at] * row[at], row)) for other in left]
            borders = [border(ROOMS[n], [int(at == own) for at in range(len(ROOMS[n].kept()))])
                       for own in range(len(ROOMS[n].kept()))]
            self.assertEqual(len(rows), len(borders) - reference.rank(borders))


class TestCrossing(unittest.TestCase):
    def test_an_example(self):
        self.assertIn(crossing(ROOMS[11], *CLOSED[11]), (1, -1))
        self.assertEqual(crossing(ROOMS[2], [0], [0]), 0)
        self.assertEqual(crossing(ROOMS[1], [], []), 0)

    def test_the_other_way_about(self):
        for n, rows in CLOSED.items():
            for one in rows:
                self.assertEqual(crossing(ROOMS[n], one, one), 0)
                for other in rows:
                    told = crossing(ROOMS[n], one, other)
                    self.assertIs(type(told), int)
                    self.assertEqual(crossing(ROOMS[n], other, one), -told)

    def test_sums_of_sixty_figures(self):
        for n in SOME_LEVELS:
            chance = random.Random(n)
            room = ROOMS[n]
            one, other, third = [summed(room, CLOSED[n], [chance.randrange(-10 ** 58, 10 ** 58) for row in CLOSED[n]])
                                 for each in range(3)]
            both = crossing(room, one, third) + crossing(room, other, third)
            self.assertEqual(crossing(room, added(one, other), third), both)
            self.assertEqual(crossing(room, third, added(one, other)), -both)
            self.assertEqual(crossing(room, times(7, one), other), 7 * crossing(room, one, other))

    def test_determinant(self):
        for n, rows in CLOSED.items():
            table = [[crossing(ROOMS[n], one, other) for other in rows] for one in rows]
            self.assertEqual(reference.determinant(table), 1)

    def test_the_same_whatever_is_kept(self):
        for n in (11, 14, 17, 22, 26, 37):
            room = ROOMS[n]
            loads = closed_loads(n, 8, n + 1)
            for seed in (1, 2):
                other = reference.OtherRoom(n, seed)
                for one_load in loads[:4]:
                    for other_load in loads[4:]:
                        told = crossing(room, room.load_row(one_load), room.load_row(other_load))
                        self.assertEqual(told, other.crossing(one_load, other_load))

    def test_the_sign(self):
        """By roads that are told by name: it is the program's own sign, not only a sign that fits itself."""
        room = ROOMS[11]
        loads = [reference.steps_load(way((0, 1), (1, k))) for k in (2, 3, 4, 5)]
        other = reference.OtherRoom(11, 3)
        told = [[crossing(room, room.load_row(one), room.load_row(second)) for second in loads] for one in loads]
        self.assertEqual(told, [[other.crossing(one, second) for second in loads] for one in loads])
        self.assertTrue(any(number != 0 for row in told for number in row))

    def test_walks_round_an_end_cross_nothing(self):
        for n in SOME_LEVELS:
            room = ROOMS[n]
            for row in CLOSED[n]:
                self.assertEqual(crossing(room, row, room.road_row((0, 1), (5, 1))), 0)


class TestMirrored(unittest.TestCase):
    def test_symbols(self):
        for room in ROOMS.values():
            for u, v in room.level().symbols():
                self.assertEqual(mirrored(room, room.symbol_row(u, v)), room.symbol_row(u, -v))

    def test_roads(self):
        for room in ROOMS.values():
            for a, c in SMALL_PLACES[::4] + long_places()[::5]:
                for b, d in SMALL_PLACES[::5] + long_places()[::6]:
                    one = (-a, c) if c else (1, 0)
                    other = (-b, d) if d else (1, 0)
                    self.assertEqual(mirrored(room, room.road_row((a, c), (b, d))), room.road_row(one, other))

    def test_twice(self):
        for room in ROOMS.values():
            row = long_row(room, room.level().number())
            self.assertEqual(mirrored(room, mirrored(room, row)), row)
            self.assertEqual(mirrored(room, times(-1, row)), times(-1, mirrored(room, row)))

    def test_closed_rows_cross_in_the_contrary_number(self):
        for n, rows in CLOSED.items():
            room = ROOMS[n]
            for one in rows:
                self.assertIs(is_closed(room, mirrored(room, one)), True)
                for other in rows:
                    told = crossing(room, mirrored(room, one), mirrored(room, other))
                    self.assertEqual(told, -crossing(room, one, other))

    def test_as_many_are_left_as_are_turned(self):
        for n, rows in CLOSED.items():
            room = ROOMS[n]
            left = [added(row, mirrored(room, row)) for row in rows]
            turned = [added(row, times(-1, mirrored(room, row))) for row in rows]
            self.assertEqual(reference.rank(left), genus(room.level()))
            self.assertEqual(reference.rank(turned), genus(room.level()))


class TestPointTwo(unittest.TestCase):
    def test_what_is_handed_in_stays(self):
        for n in (2, 11, 12, 48):
            room = ROOMS[n]
            row = room.road_row((0, 1), (1, 0))
            kept = list(row)
            for ask in (border, is_closed, mirrored):
                ask(room, row)
                self.assertEqual(row, kept)
        one, other = [list(row) for row in CLOSED[11]]
        crossing(ROOMS[11], one, other)
        self.assertEqual([one, other], CLOSED[11])

    def test_told_lists(self):
        for n in (1, 2, 11, 12, 48):
            room = Room(Level(n))
            row = room.road_row((0, 1), (1, 0))
            for ask in (border, mirrored):
                earlier = ask(room, row)
                kept = list(earlier)
                told = ask(room, row)
                told.append("more")
                told[0] = "other"
                self.assertEqual(ask(room, row), kept)
                self.assertEqual(earlier, kept)

    def test_closed_rows_that_were_changed(self):
        for n in (11, 23, 48):
            room = Room(Level(n))
            earlier = closed_rows(room)
            kept = [list(row) for row in earlier]
            told = closed_rows(room)
            for row in told:
                row[0] = "other"
                row.append("more")
            told.clear()
            self.assertEqual(closed_rows(room), kept)
            self.assertEqual(earlier, kept)


if __name__ == "__main__":
    unittest.main()
