"""Points 9 and 10: ends, a place at each, turnings between places at one end, widths; point 2 of what they tell."""

import math
import unittest

from common import LEVELS, LONGEST, OTHER_THINGS, long_places, long_turnings, refusal
from fractionroads.ends import end, ends, leading, place_at, width
from fractionroads.errors import Apart, NoEnd
from fractionroads.levels import Level, symbols_counted
from fractionroads.places import is_place
from fractionroads.turnings import back, is_turning, led, multiplied, word_of, by_word

ALL_LEVELS = {n: Level(n) for n in LEVELS}
SMALL_PLACES = [(1, 0)] + [(top, bottom) for bottom in range(1, 13) for top in range(-7, 8)
                           if math.gcd(top, bottom) == 1]


def turning_to(spot):
    """A turning that leads (1, 0) to a place, written apart from the program."""
    a, c = spot
    if c == 0:
        return ((1, 0), (0, 1))
    d = pow(a, -1, c) if c > 1 else 1
    return ((a, (a * d - 1) // c), (c, d))


def corner_of(n, spot):
    """The pairs of rests that tell symbols of turnings which lead (1, 0) to the place's end, by their meaning."""
    (a, b), (c, d) = turning_to(spot)
    return frozenset((k * c % n, k * (d + j * c) % n) for j in range(n) for k in range(1, n + 1)
                     if math.gcd(k, n) == 1)


def level_turnings(n):
    """Some turnings of a level, of small numbers and of long ones."""
    some = [((1, 5), (0, 1)), ((1, 0), (n, 1)), ((1, 0), (-n * 10 ** 12, 1)), ((-1, 3), (0, -1))]
    return some + [multiplied(some[1], some[0]), multiplied(multiplied(some[2], some[0]), some[1])]


class TestEnds(unittest.TestCase):
    def test_examples(self):
        for n, told in ((1, [(1, 0)]), (2, [(1, 0), (2, 0)]), (4, [(1, 0), (2, 1), (4, 0)]),
                        (9, [(1, 0), (3, 1), (3, 2), (9, 0)]), (11, [(1, 0), (11, 0)]),
                        (12, [(1, 0), (2, 1), (3, 0), (4, 0), (6, 1), (12, 0)]),
                        (16, [(1, 0), (2, 1), (4, 1), (4, 3), (8, 1), (16, 0)]),
                        (25, [(1, 0), (5, 1), (5, 2), (5, 3), (5, 4), (25, 0)])):
            self.assertEqual(ends(Level(n)), told)

    def test_every_level(self):
        for n, level in ALL_LEVELS.items():
            told = []
            for d in range(1, n + 1):
                if n % d == 0:
                    g = math.gcd(d, n // d)
                    told += [(d, r) for r in range(g) if math.gcd(r, g) == 1]
            self.assertEqual(ends(level), sorted(told))
            self.assertIs(type(ends(level)), list)
            for each in ends(level):
                self.assertIs(type(each), tuple)


class TestEnd(unittest.TestCase):
    def test_examples(self):
        self.assertEqual(end(Level(1), (3, 7)), (1, 0))
        self.assertEqual(end(Level(1), (1, 0)), (1, 0))
        self.assertEqual(end(Level(12), (1, 0)), (12, 0))
        self.assertEqual(end(Level(12), (0, 1)), (1, 0))
        self.assertEqual(end(Level(12), (5, 6)), (6, 1))
        self.assertEqual(end(Level(9), (2, 3)), (3, 2))
        self.assertEqual(end(Level(9), (2, 15)), (3, 1))
        self.assertEqual(end(Level(9), (-1, 3)), (3, 2))
        self.assertEqual(end(Level(25), (-3, 10)), (5, 4))

    def test_by_the_words_of_the_document(self):
        for n, level in ALL_LEVELS.items():
            told = ends(level)
            for a, c in SMALL_PLACES + long_places():
                d = math.gcd(c, n) if c != 0 else n
                self.assertEqual(end(level, (a, c)), (d, a * (c // d) % math.gcd(d, n // d)))
                self.assertIn(end(level, (a, c)), told)

    def test_one_end_just_where_the_level_leads_the_one_to_the_other(self):
        for n, level in ALL_LEVELS.items():
            corners = {}
            for spot in SMALL_PLACES + long_places():
                told = end(level, spot)
                self.assertEqual(corners.setdefault(told, corner_of(n, spot)), corner_of(n, spot))
            self.assertEqual(len(set(corners.values())), len(corners))

    def test_the_levels_turnings_leave_the_end(self):
        for n, level in ALL_LEVELS.items():
            for turning in level_turnings(n):
                for spot in SMALL_PLACES[::5] + long_places()[::3]:
                    self.assertEqual(end(level, led(turning, spot)), end(level, spot))

    def test_it_tells_a_tuple_of_ints(self):
        for spot in ((1, 0), (0, 1), (-3, 4)):
            told = end(Level(8), spot)
            self.assertIs(type(told), tuple)
            self.assertEqual([type(number) for number in told], [int, int])


class TestPlaceAt(unittest.TestCase):
    def test_each_end_of_every_level(self):
        for level in ALL_LEVELS.values():
            for told in ends(level):
                spot = place_at(level, told)
                self.assertTrue(is_place(spot))
                self.assertEqual(end(level, spot), told)

    def test_tuples_that_are_no_ends(self):
        for n, level in ALL_LEVELS.items():
            told = ends(level)
            for d in range(-2, n + 3):
                for r in range(-2, 9):
                    if (d, r) not in told:
                        self.assertIs(refusal(place_at, level, (d, r)), NoEnd)

    def test_other_things(self):
        for n in (1, 4, 9, 12, 48):
            for thing in (*OTHER_THINGS, 1, 0, -1, LONGEST, [1, 0], [n, 0], (1,), (n,), (1, 0, 0), ((1, 0),), [(1, 0)],
                          (True, 0), (1, False), (True, False), (1, None), ("1", 0), (1, "0"), ((1,), 0), (1, (0,)),
                          (1, LONGEST), (LONGEST, 0), (-LONGEST, LONGEST), ([1], [0]), (n, n), (n, -1), (0, 0)):
                with self.subTest(repr(thing)[:60]):
                    self.assertIs(refusal(place_at, ALL_LEVELS[n], thing), NoEnd)

    def test_truths_in_an_end_of_other_numbers(self):
        self.assertIs(refusal(place_at, ALL_LEVELS[4], (2, True)), NoEnd)
        self.assertIsNone(refusal(place_at, ALL_LEVELS[4], (2, 1)))

    def test_what_is_handed_in_stays(self):
        thing = [1, [0]]
        refusal(place_at, ALL_LEVELS[4], thing)
        self.assertEqual(thing, [1, [0]])


class TestLeading(unittest.TestCase):
    def assert_leading(self, level, one, other):
        turning = leading(level, one, other)
        self.assertTrue(is_turning(turning))
        self.assertEqual(turning[1][0] % level.number(), 0)
        self.assertEqual(led(turning, one), other)

    def test_small_places(self):
        for level in ALL_LEVELS.values():
            for one in SMALL_PLACES[::4]:
                for other in SMALL_PLACES[::7]:
                    if end(level, one) == end(level, other):
                        self.assert_leading(level, one, other)
                    else:
                        self.assertIs(refusal(leading, level, one, other), Apart)

    def test_a_place_and_itself(self):
        for level in ALL_LEVELS.values():
            for spot in SMALL_PLACES[::9] + long_places()[::2]:
                self.assert_leading(level, spot, spot)

    def test_long_numbers(self):
        for n, level in ALL_LEVELS.items():
            spots = long_places() + [place_at(level, told) for told in ends(level)]
            for one in spots[::3]:
                for other in spots:
                    if end(level, one) == end(level, other):
                        self.assert_leading(level, one, other)
                    else:
                        self.assertIs(refusal(leading, level, one, other), Apart)
            for turning in level_turnings(n):
                self.assert_leading(level, spots[0], led(turning, spots[0]))

    def test_apart(self):
        self.assertIs(refusal(leading, Level(2), (1, 0), (0, 1)), Apart)
        self.assertIs(refusal(leading, Level(9), (1, 3), (2, 3)), Apart)
        self.assertIsNone(refusal(leading, Level(6), (1, 3), (2, 3)))

    def test_what_is_told_has_a_word(self):
        for one, other in zip(long_places(), long_places()[1:]):
            turning = leading(Level(1), one, other)
            self.assertEqual(by_word(word_of(turning)), turning)


class TestWidth(unittest.TestCase):
    def test_examples(self):
        for n, spot, told in ((1, (1, 0), 1), (12, (0, 1), 12), (12, (1, 0), 1), (12, (1, 2), 3), (12, (1, 3), 4),
                              (12, (1, 4), 3), (12, (1, 6), 1), (9, (1, 3), 1), (16, (1, 4), 1), (16, (1, 2), 4)):
            self.assertEqual(width(Level(n), spot), told)

    def test_all_widths_together(self):
        for n, level in ALL_LEVELS.items():
            widths = [width(level, place_at(level, told)) for told in ends(level)]
            self.assertEqual(sum(widths), symbols_counted(n))

    def test_by_turnings_that_leave_the_place(self):
        for n, level in ALL_LEVELS.items():
            for spot in SMALL_PLACES[::6] + long_places()[::4]:
                to_spot = turning_to(spot)
                least = min(k for k in range(1, n + 1)
                            if level.has(multiplied(multiplied(to_spot, ((1, k), (0, 1))), back(to_spot))))
                self.assertEqual(width(level, spot), least)
                self.assertEqual(width(level, spot), len(corner_of(n, spot)) // len(corner_of(n, (1, 0))))

    def test_places_at_one_end_have_one_width(self):
        for n in (8, 12, 36, 48):
            for spot in SMALL_PLACES[::5]:
                for turning in level_turnings(n):
                    self.assertEqual(width(Level(n), led(turning, spot)), width(Level(n), spot))

    def test_other_turnings_are_not_the_levels(self):
        level = Level(7)
        self.assertFalse(all(end(level, led(turning, (1, 0))) == (7, 0) for turning in long_turnings()))


class TestToldLists(unittest.TestCase):
    def test_ends(self):
        for level in ALL_LEVELS.values():
            earlier = ends(level)
            kept = list(earlier)
            told = ends(level)
            told[0] = "other"
            told.append("more")
            self.assertEqual(ends(level), kept)
            self.assertEqual(earlier, kept)
            told.clear()
            self.assertEqual(end(level, place_at(level, kept[0])), kept[0])


if __name__ == "__main__":
    unittest.main()
