"""Points 22 and 23: turns of exact parts, rows led down and up; point 2 of what they tell."""

import math
import unittest

from common import (LEVELS, LONG, LONGEST, OTHER_THINGS, SMALL_PLACES, added, long_places, long_row, no_rows, refusal,
                    spoil, times)
from fractionroads.closed import closed_rows, crossing, is_closed, mirrored
from fractionroads.deeds import deed
from fractionroads.errors import NoPart, NoRow
from fractionroads.levels import Level, symbols_counted
from fractionroads.places import place
from fractionroads.rooms import Room
from fractionroads.turns import led_down, led_up, turned

ROOMS = {n: Room(Level(n)) for n in LEVELS}
CLOSED = {n: closed_rows(room) for n, room in ROOMS.items()}
SPOTS = SMALL_PLACES[::6] + long_places()[::5]
# Of one, two and three primes, with squares, of genus 0 and above.
SOME_LEVELS = (1, 2, 9, 11, 12, 16, 20, 26, 30, 36, 42, 45, 48)
OTHER_NUMBERS = (0, -1, -2, -11, 49, 97, LONGEST, -LONGEST, LONG, -LONG)


def divisors_of(n):
    return [d for d in range(1, n + 1) if n % d == 0]


def parts_of(n):
    return [q for q in divisors_of(n) if math.gcd(q, n // q) == 1]


def turn_choices(n, q):
    """All choices of small numbers s, t, w, z for the turn of an exact part."""
    told = []
    for s in range(-3, 4):
        for w in range(-3, 4):
            for t in range(-60, 61):
                # q s z is 1 and what n / q times w t comes to.
                rest = 1 + n // q * w * t
                if s == 0:
                    told += [(s, t, w, 5)] if rest == 0 else []
                elif rest % (q * s) == 0:
                    told.append((s, t, w, rest // (q * s)))
    return told


def turned_spot(n, q, choice, spot):
    s, t, w, z = choice
    x, y = spot
    return place(q * s * x + t * y, n * w * x + q * z * y)


def lower_levels():
    """All pairs of a level and one that divides it."""
    return [(n, k) for n in LEVELS for k in divisors_of(n)]


class TestTurned(unittest.TestCase):
    def test_roads_whichever_numbers_are_chosen(self):
        for n in LEVELS:
            room = ROOMS[n]
            for q in parts_of(n):
                choices = turn_choices(n, q)
                self.assertGreater(len(choices), 1)
                for at, (one, other) in enumerate(zip(SPOTS, SPOTS[1:] + SPOTS[:1])):
                    told = turned(room, q, room.road_row(one, other))
                    for choice in choices[at % 5::max(1, len(choices) // 4)]:
                        spots = [turned_spot(n, q, choice, spot) for spot in (one, other)]
                        self.assertEqual(told, room.road_row(*spots))

    def test_the_turn_of_the_level_itself(self):
        for n in LEVELS:
            room = ROOMS[n]
            for (a, c), (b, d) in zip(SPOTS, SPOTS[2:]):
                row = room.road_row(place(-c, n * a), place(-d, n * b))
                self.assertEqual(turned(room, n, room.road_row((a, c), (b, d))), row)

    def test_the_turn_of_1_leaves_all(self):
        for n in LEVELS:
            row = long_row(ROOMS[n], n)
            self.assertEqual(turned(ROOMS[n], 1, row), row)

    def test_an_example(self):
        self.assertEqual(turned(ROOMS[2], 2, [7]), [-7])
        self.assertEqual(turned(ROOMS[1], 1, []), [])
        self.assertEqual([turned(ROOMS[11], 11, row) for row in CLOSED[11]], [times(-1, row) for row in CLOSED[11]])

    def test_sums_of_sixty_figures(self):
        for n in LEVELS:
            room = ROOMS[n]
            for q in parts_of(n):
                one, other = long_row(room, n), long_row(room, q + 50)
                told = turned(room, q, one)
                self.assertIs(type(told), list)
                self.assertEqual({type(number) for number in told} - {int}, set())
                both = added(times(-3, told), turned(room, q, other))
                self.assertEqual(turned(room, q, added(times(-3, one), other)), both)

    def test_twice_leaves_all(self):
        for n in LEVELS:
            for q in parts_of(n):
                row = long_row(ROOMS[n], q)
                self.assertEqual(turned(ROOMS[n], q, turned(ROOMS[n], q, row)), row)

    def test_products(self):
        for n in LEVELS:
            for q in parts_of(n):
                for other in parts_of(n):
                    if math.gcd(q, other) == 1:
                        row = long_row(ROOMS[n], n)
                        told = turned(ROOMS[n], q, turned(ROOMS[n], other, row))
                        self.assertEqual(told, turned(ROOMS[n], q * other, row))

    def test_the_mirror(self):
        for n in LEVELS:
            room = ROOMS[n]
            for q in parts_of(n):
                row = long_row(room, q)
                self.assertEqual(turned(room, q, mirrored(room, row)), mirrored(room, turned(room, q, row)))

    def test_deeds(self):
        for n in LEVELS:
            room = ROOMS[n]
            for q in parts_of(n):
                row = long_row(room, q)
                for m in [m for m in (1, 2, 3, 4, 5, 6, 7, 15, 20) if math.gcd(m, q) == 1]:
                    self.assertEqual(turned(room, q, deed(room, m, row)), deed(room, m, turned(room, q, row)))

    def test_crossings(self):
        for n, rows in CLOSED.items():
            room = ROOMS[n]
            for q in parts_of(n):
                led = [turned(room, q, row) for row in rows]
                self.assertTrue(all(is_closed(room, row) for row in led))
                for one, turned_one in zip(rows, led):
                    for other, turned_other in zip(rows, led):
                        self.assertEqual(crossing(room, turned_one, turned_other), crossing(room, one, other))


class TestTurnedRefusals(unittest.TestCase):
    def no_parts(self, n):
        told = [q for q in range(-5, 60) if q not in parts_of(n)]
        return [*told, *OTHER_NUMBERS, *[[q] for q in parts_of(n)], *[(q,) for q in parts_of(n)],
                *[str(q) for q in parts_of(n)], *OTHER_THINGS]

    def test_no_part(self):
        for n in LEVELS:
            noughts = [0] * len(ROOMS[n].kept())
            for thing in self.no_parts(n):
                self.assertIs(refusal(turned, ROOMS[n], thing, noughts), NoPart, (n, repr(thing)[:60]))
            for q in parts_of(n):
                self.assertIsNone(refusal(turned, ROOMS[n], q, noughts))

    def test_no_row(self):
        for n in (1, 2, 11, 12, 42, 48):
            for q in parts_of(n):
                for thing in no_rows(ROOMS[n]):
                    self.assertIs(refusal(turned, ROOMS[n], q, thing), NoRow, (n, q, repr(thing)[:60]))

    def test_no_part_ahead_of_no_row(self):
        for n in (1, 12, 48):
            for q in self.no_parts(n):
                for row in ([True], "x", None, [0] * 30, (0, 0, 0)):
                    self.assertIs(refusal(turned, ROOMS[n], q, row), NoPart)


class TestLedDown(unittest.TestCase):
    def test_roads(self):
        for n, k in lower_levels():
            for d in divisors_of(n // k):
                for (a, c), (b, e) in zip(SPOTS, SPOTS[1:] + SPOTS[:1]):
                    told = led_down(ROOMS[n], ROOMS[k], d, ROOMS[n].road_row((a, c), (b, e)))
                    self.assertEqual(told, ROOMS[k].road_row(place(d * a, c), place(d * b, e)))

    def test_to_the_level_itself(self):
        for n in LEVELS:
            row = long_row(ROOMS[n], n)
            self.assertEqual(led_down(ROOMS[n], ROOMS[n], 1, row), row)
            other = Room(Level(n))
            self.assertEqual(led_down(ROOMS[n], other, 1, ROOMS[n].road_row((0, 1), (1, 3))),
                             other.road_row((0, 1), (1, 3)))

    def test_to_level_1(self):
        for n in LEVELS:
            for d in divisors_of(n):
                self.assertEqual(led_down(ROOMS[n], ROOMS[1], d, long_row(ROOMS[n], n)), [])

    def test_sums_of_sixty_figures(self):
        for n, k in lower_levels():
            for d in divisors_of(n // k):
                one, other = long_row(ROOMS[n], n), long_row(ROOMS[n], n + d)
                told = led_down(ROOMS[n], ROOMS[k], d, one)
                self.assertIs(type(told), list)
                self.assertEqual(len(told), len(ROOMS[k].kept()))
                both = added(times(5, told), led_down(ROOMS[n], ROOMS[k], d, other)) if told else []
                self.assertEqual(led_down(ROOMS[n], ROOMS[k], d, added(times(5, one), other)), both)

    def test_by_steps(self):
        for n, k in ((48, 4), (36, 3), (30, 5), (44, 11), (42, 14)):
            for middle in [middle for middle in divisors_of(n) if middle % k == 0]:
                for first in divisors_of(n // middle):
                    for second in divisors_of(middle // k):
                        row = long_row(ROOMS[n], n)
                        told = led_down(ROOMS[middle], ROOMS[k], second, led_down(ROOMS[n], ROOMS[middle], first, row))
                        self.assertEqual(told, led_down(ROOMS[n], ROOMS[k], first * second, row))

    def test_closed_rows_are_led_to_closed_ones(self):
        for n, k in lower_levels():
            for d in divisors_of(n // k):
                for row in CLOSED[n]:
                    self.assertIs(is_closed(ROOMS[k], led_down(ROOMS[n], ROOMS[k], d, row)), True)

    def test_deeds(self):
        for n, k in lower_levels():
            for d in divisors_of(n // k):
                row = long_row(ROOMS[n], d)
                for m in [m for m in (1, 2, 3, 5, 9, 14) if math.gcd(m, n) == 1]:
                    told = led_down(ROOMS[n], ROOMS[k], d, deed(ROOMS[n], m, row))
                    self.assertEqual(told, deed(ROOMS[k], m, led_down(ROOMS[n], ROOMS[k], d, row)))


class TestLedUp(unittest.TestCase):
    def test_symbols(self):
        for n, k in lower_levels():
            upper, lower = ROOMS[n].level(), ROOMS[k].level()
            for u, v in lower.symbols()[::3]:
                over = [pair for pair in upper.symbols() if lower.symbol(*pair) == (u, v)]
                self.assertEqual(len(over), symbols_counted(n) // symbols_counted(k))
                row = ROOMS[n].load_row([(*pair, 1) for pair in over])
                self.assertEqual(led_up(ROOMS[k], ROOMS[n], ROOMS[k].symbol_row(u, v)), row)

    def test_to_the_level_itself(self):
        for n in LEVELS:
            row = long_row(ROOMS[n], n)
            self.assertEqual(led_up(ROOMS[n], ROOMS[n], row), row)

    def test_from_level_1(self):
        for n in LEVELS:
            self.assertEqual(led_up(ROOMS[1], ROOMS[n], []), [0] * len(ROOMS[n].kept()))

    def test_up_and_down_by_1(self):
        for n, k in lower_levels():
            row = long_row(ROOMS[k], n)
            told = led_up(ROOMS[k], ROOMS[n], row)
            self.assertIs(type(told), list)
            many = symbols_counted(n) // symbols_counted(k)
            self.assertEqual(led_down(ROOMS[n], ROOMS[k], 1, told), times(many, row))

    def test_crossings(self):
        for n, k in lower_levels():
            for one in CLOSED[k]:
                up = led_up(ROOMS[k], ROOMS[n], one)
                self.assertIs(is_closed(ROOMS[n], up), True)
                for other in CLOSED[n]:
                    down = led_down(ROOMS[n], ROOMS[k], 1, other)
                    self.assertEqual(crossing(ROOMS[n], up, other), crossing(ROOMS[k], one, down))


class TestLeadingRefusals(unittest.TestCase):
    def test_the_lower_level_does_not_divide(self):
        for n in LEVELS:
            noughts = [0] * len(ROOMS[n].kept())
            for k in [k for k in LEVELS if n % k != 0]:
                for d in (1, n, 0, None):
                    for row in (noughts, "x", None):
                        self.assertIs(refusal(led_down, ROOMS[n], ROOMS[k], d, row), NoPart)
                for row in ([0] * len(ROOMS[k].kept()), "x", None, [True]):
                    self.assertIs(refusal(led_up, ROOMS[k], ROOMS[n], row), NoPart)

    def test_no_divisor(self):
        for n, k in lower_levels():
            noughts = [0] * len(ROOMS[n].kept())
            wrong = [d for d in range(-3, 50) if d not in divisors_of(n // k)]
            for d in (*wrong, *OTHER_NUMBERS, *OTHER_THINGS, [1], (1,)):
                self.assertIs(refusal(led_down, ROOMS[n], ROOMS[k], d, noughts), NoPart, (n, k, repr(d)[:60]))

    def test_no_part_ahead_of_no_row(self):
        for n, k in ((12, 4), (11, 11), (48, 1), (42, 21)):
            for d in (*OTHER_NUMBERS, *OTHER_THINGS, 7 * 5):
                for row in ([True], "x", None, [0] * 30, (0, 0, 0)):
                    self.assertIs(refusal(led_down, ROOMS[n], ROOMS[k], d, row), NoPart)

    def test_no_row(self):
        for n, k in ((1, 1), (12, 4), (11, 11), (48, 1), (42, 21), (44, 11)):
            for thing in no_rows(ROOMS[n]):
                self.assertIs(refusal(led_down, ROOMS[n], ROOMS[k], 1, thing), NoRow, (n, k, repr(thing)[:60]))
            for thing in no_rows(ROOMS[k]):
                self.assertIs(refusal(led_up, ROOMS[k], ROOMS[n], thing), NoRow, (n, k, repr(thing)[:60]))

    def test_the_row_of_the_other_room(self):
        self.assertIs(refusal(led_down, ROOMS[22], ROOMS[11], 1, [0] * len(ROOMS[11].kept())), NoRow)
        self.assertIs(refusal(led_up, ROOMS[11], ROOMS[22], [0] * len(ROOMS[22].kept())), NoRow)


class TestPointTwo(unittest.TestCase):
    def asks(self, n, k, row, lower_row):
        return [lambda: turned(ROOMS[n], n, row), lambda: turned(ROOMS[n], 1, row),
                lambda: led_down(ROOMS[n], ROOMS[k], 1, row), lambda: led_down(ROOMS[n], ROOMS[k], n // k, row),
                lambda: led_up(ROOMS[k], ROOMS[n], lower_row)]

    def test_what_is_handed_in_stays(self):
        for n in SOME_LEVELS:
            for k in divisors_of(n):
                row, lower_row = long_row(ROOMS[n], n), long_row(ROOMS[k], k)
                kept = (list(row), list(lower_row))
                for ask in self.asks(n, k, row, lower_row):
                    ask()
                    self.assertEqual((row, lower_row), kept)

    def test_what_is_refused_stays(self):
        part, row = [[1], 2], [0, [1]]
        for ask in (turned, lambda room, d, row: led_down(room, ROOMS[11], d, row)):
            refusal(ask, ROOMS[22], part, row)
            refusal(ask, ROOMS[22], 1, row)
        refusal(led_up, ROOMS[11], ROOMS[22], row)
        self.assertEqual((part, row), ([[1], 2], [0, [1]]))

    def test_told_lists(self):
        for n in SOME_LEVELS[1:]:
            for k in divisors_of(n)[1:]:
                row, lower_row = long_row(ROOMS[n], n), long_row(ROOMS[k], k)
                kept = (list(row), list(lower_row))
                for ask in self.asks(n, k, row, lower_row):
                    earlier = ask()
                    before = list(earlier)
                    spoil(ask())
                    self.assertEqual(ask(), before)
                    self.assertEqual(earlier, before)
                    self.assertEqual((row, lower_row), kept)


if __name__ == "__main__":
    unittest.main()
